/-
  Layer 7: the reference's Encode.
-/
import Derived.Test.YtbbaleambgaanaaGreatDoorPk11
import Derived.Test.YtbbaleambgaanaaGreatDoorPk22
import Derived.Test.YtbbaleambgaanaaGreatDoorPk09
namespace Go.Proofs.YtbbaleambgaanaaGreatDoor.Ust
open Go.RowKit
open Oct Cst Chk

theorem strOf_app (l m : List Int) : strOfNums l ++ strOfNums m = strOfNums (l ++ m) := by
  apply ByteArray.ext
  apply Array.ext'
  rw [ByteArray.data_append, Array.toList_append, strOfNums_data, strOfNums_data, strOfNums_data, List.map_append]
theorem nums_app (s t : ByteArray) : numsOf (s ++ t) = numsOf s ++ numsOf t := by
  unfold numsOf
  rw [ByteArray.data_append, Array.toList_append, List.map_append]
theorem rhdT : ObjT Tryz.prog 67 6 := ⟨⟨_, Tryz.underlying67⟩, by kernel_rfl⟩

set_option maxHeartbeats 1000000 in
theorem renc_bad (T : Int) (nm pf lk : ByteArray) (md sz : Int) (w : World) (hn : nm.size ≤ maxLen) (hp : pf.size ≤ maxLen) (hk : lk.size ≤ maxLen) (h : ckH T nm pf lk md sz ≠ 0) :
    Calls Tryz.prog 28 #[.agg (hdV T nm pf lk md sz).toArray] w fun e w' => e = .returned (.tuple #[.slice none 0 0, .int .i64 (ckH T nm pf lk md sz)]) ∧ Below w.heap.size w w' := by
  obtain ⟨E, hE⟩ := named (ckH T nm pf lk md sz)
  have hne : (E != 0) = true := by rw [hE.out]; simp [h]
  rw [← hE.out]
  clear h
  have HN := Lib.hid hn; have HP := Lib.hid hp; have HK := Lib.hid hk
  have HT := Lib.hid rhdT
  clear hn hp hk
  go_enter Tryz.func28, Tryz.ntmps28
  go_wp2_with (first | (refine wpList_box_obj rfl 67 _ rfl (hdV T nm pf lk md sz) rfl ?_; intro w1 h1 b1; have H1 := Lib.hid h1; have B1 := Lib.hid b1; clear h1 b1) | (refine wpList_load_obj rfl 67 6 HT.out _ rfl w.heap.size rfl _ (hdV T nm pf lk md sz) H1.out rfl ?_))
  refine (rcheck_any T nm pf lk md sz w1 HN.out HP.out HK.out).mono ?_; rintro e w2 ⟨rfl, b2⟩
  rw [← hE.out]
  have B2 := Lib.hid (B1.out.trans (b2.mono B1.out.size)); clear b2
  go_wp2_with fail
  go_ret2
  exact ⟨rfl, B2.out⟩

theorem big_nums {T : Int} {nm pf lk : ByteArray} {md sz : Int} {s1 s4 s5 o1 o3 o8 o12 x32 xx ST : ByteArray} (hT : 0 ≤ T ∧ T ≤ 255) (h1 : s1 = strOfNums (fldS (numsOf nm) 100)) (h4 : s4 = strOfNums (fldS (numsOf lk) 100)) (h5 : s5 = strOfNums (fldS (numsOf pf) 155)) (p1 : o1 = strOfNums (fld 7 md))
    (p3 : o3 = strOfNums (fld 11 sz)) (p8 : o8 = strOfNums (fld 7 0)) (p12 : o12 = strOfNums (fld 11 0)) (q : x32 = strOfNums (fldS (numsOf { data := #[] }) 32)) (qx : xx = strOfNums (fldS (numsOf { data := #[] }) 12)) (ht : ST = strOfNums [T]) :
    numsOf (((((((((((((((s1 ++ o1) ++ o8) ++ o8) ++ o3) ++ o12) ++ { data := #[32, 32, 32, 32, 32, 32, 32, 32] }) ++ ST) ++ s4) ++ { data := #[117, 115, 116, 97, 114, 0, 48, 48] }) ++ x32) ++ x32) ++ o8) ++ o8) ++ s5) ++ xx) = rawH T nm pf lk md sz := by
  have e0 : numsOf { data := #[] } = [] := rfl
  have e1 : numsOf { data := #[32, 32, 32, 32, 32, 32, 32, 32] } = sp8 := by decide
  have e2 : numsOf { data := #[117, 115, 116, 97, 114, 0, 48, 48] } = magic := by decide
  have e3 : fldS [] 32 = zeros 32 := rfl
  have e4 : fldS [] 12 = zeros 12 := rfl
  simp only [nums_app, h1, h4, h5, p1, p3, p8, p12, q, qx, ht, e0, e1, e2, e3, e4, numsOf_strOfNums (fldS_bytes (numsOf_bytes nm) 100), numsOf_strOfNums (fldS_bytes (numsOf_bytes lk) 100), numsOf_strOfNums (fldS_bytes (numsOf_bytes pf) 155), numsOf_strOfNums (fld_bytes 7 md), numsOf_strOfNums (fld_bytes 11 sz),
    numsOf_strOfNums (fld_bytes 7 0), numsOf_strOfNums (fld_bytes 11 0), numsOf_strOfNums (zeros_bytes 32), numsOf_strOfNums (zeros_bytes 12), numsOf_strOfNums (one_byte hT)]
  simp only [rawH, headA, tailB, List.append_assoc]

theorem size_of {s : ByteArray} {l : List Int} {n : Nat} (h : s = strOfNums l) (hb : Bytes l) (hl : l.length = n) : s.size = n := by
  rw [← numsOf_length, h, numsOf_strOfNums hb, hl]

/-- '[]byte(s)' has room for its own bytes -/
theorem bytes_cap {P : Program} {w : World} {src e dst : TypeId} (hs : P.underlying src = some .string) (hd : P.underlying dst = some (.slice e)) (he : P.underlying e = some (.int .u8)) (s : ByteArray) (n : Nat) {c : Nat} {b : Option Addr} {w' : World} (hn : s.size = n)
    (h : (convert src dst (.string s)).run P w = .ok (.slice b n c) w') : n ≤ c := by
  rw [run_bytes_of_string w src dst e s hs hd he] at h
  simp only [Result.ok.injEq, Value.slice.injEq] at h
  have := h.1.2.2
  rw [← this, ← hn]
  exact grownCap_ge w s.size 0 e

set_option maxRecDepth 100000 in
set_option maxHeartbeats 16000000 in
theorem renc_ok (T : Int) (nm pf lk : ByteArray) (md sz : Int) (w : World) (hn : nm.size ≤ maxLen) (hp : pf.size ≤ maxLen) (hk : lk.size ≤ maxLen) (h : ckH T nm pf lk md sz = 0) :
    Calls Tryz.prog 28 #[.agg (hdV T nm pf lk md sz).toArray] w (RetBytes (encH T nm pf lk md sz) 512 0 w) := by
  obtain ⟨k1, k2, k3, k4, k5, k6⟩ := ckH_zero.1 h
  have hm := mx_7; have hs := mx_11'
  have HRL := Lib.hid (raw_length h)
  have HCK := Lib.hid h
  obtain ⟨s1, h1⟩ := named (strOfNums (fldS (numsOf nm) 100))
  obtain ⟨s4, h4⟩ := named (strOfNums (fldS (numsOf lk) 100))
  obtain ⟨s5, h5⟩ := named (strOfNums (fldS (numsOf pf) 155))
  obtain ⟨o1, p1⟩ := named (strOfNums (fld 7 md))
  obtain ⟨o3, p3⟩ := named (strOfNums (fld 11 sz))
  obtain ⟨o8, p8⟩ := named (strOfNums (fld 7 0))
  obtain ⟨o12, p12⟩ := named (strOfNums (fld 11 0))
  obtain ⟨x32, q32⟩ := named (strOfNums (fldS (numsOf { data := #[] }) 32))
  obtain ⟨xx, qx⟩ := named (strOfNums (fldS (numsOf { data := #[] }) 12))
  obtain ⟨ST, ht⟩ := named (strOfNums [T])
  have HBIG := Lib.hid (big_nums (md := md) (sz := sz) (known_byte k1) h1.out h4.out h5.out p1.out p3.out p8.out p12.out q32.out qx.out ht.out)
  have N1 : Hid (∀ w', Calls Tryz.prog 66 #[.string nm, .int .i64 100] w' fun e w'' => e = .returned (.string s1) ∧ Below w'.heap.size w' w'') := fun w' => by rw [h1.out]; exact rtext_any nm 100 w' k2
  have N4 : Hid (∀ w', Calls Tryz.prog 66 #[.string lk, .int .i64 100] w' fun e w'' => e = .returned (.string s4) ∧ Below w'.heap.size w' w'') := fun w' => by rw [h4.out]; exact rtext_any lk 100 w' k3
  have N5 : Hid (∀ w', Calls Tryz.prog 66 #[.string pf, .int .i64 155] w' fun e w'' => e = .returned (.string s5) ∧ Below w'.heap.size w' w'') := fun w' => by rw [h5.out]; exact rtext_any pf 155 w' k4
  have N32 : Hid (∀ w', Calls Tryz.prog 66 #[.string { data := #[] }, .int .i64 32] w' fun e w'' => e = .returned (.string x32) ∧ Below w'.heap.size w' w'') := fun w' => by rw [q32.out]; exact rtext_any { data := #[] } 32 w' (by decide)
  have NX : Hid (∀ w', Calls Tryz.prog 66 #[.string { data := #[] }, .int .i64 12] w' fun e w'' => e = .returned (.string xx) ∧ Below w'.heap.size w' w'') := fun w' => by rw [qx.out]; exact rtext_any { data := #[] } 12 w' (by decide)
  have N2 : Hid (∀ w', Calls Tryz.prog 67 #[.int .i64 md, .int .i64 8] w' fun e w'' => e = .returned (.string o1) ∧ Below w'.heap.size w' w'') := fun w' => by rw [p1.out]; exact roct_any md 8 7 w' (by decide) (by decide) (by decide) k5.1 (by omega)
  have N3 : Hid (∀ w', Calls Tryz.prog 67 #[.int .i64 sz, .int .i64 12] w' fun e w'' => e = .returned (.string o3) ∧ Below w'.heap.size w' w'') := fun w' => by rw [p3.out]; exact roct_any sz 12 11 w' (by decide) (by decide) (by decide) k6.1 (by omega)
  have N8 : Hid (∀ w', Calls Tryz.prog 67 #[.int .i64 0, .int .i64 8] w' fun e w'' => e = .returned (.string o8) ∧ Below w'.heap.size w' w'') := fun w' => by rw [p8.out]; exact roct_any 0 8 7 w' (by decide) (by decide) (by decide) (by decide) (by decide)
  have N12 : Hid (∀ w', Calls Tryz.prog 67 #[.int .i64 0, .int .i64 12] w' fun e w'' => e = .returned (.string o12) ∧ Below w'.heap.size w' w'') := fun w' => by rw [p12.out]; exact roct_any 0 12 11 w' (by decide) (by decide) (by decide) (by decide) (by decide)
  have HTB := Lib.hid (known_byte k1)
  have CAP : Hid (∀ (w w' : World) (b : Option Addr) (c : Nat) {s : ByteArray}, s.size = 512 → (convert 9 24 (.string s)).run Tryz.prog w = .ok (.slice b 512 c) w' → 512 ≤ c) := fun w w' b c s hs h => bytes_cap Tryz.underlying9 Tryz.underlying24 Tryz.underlying5 s 512 hs h
  have HN := Lib.hid hn; have HP := Lib.hid hp; have HK := Lib.hid hk
  have HT := Lib.hid rhdT
  have z1 : s1.size = 100 := size_of h1.out (fldS_bytes (numsOf_bytes nm) 100) (fldS_length _ _ (ce_len (k := 100) k2))
  have z4 : s4.size = 100 := size_of h4.out (fldS_bytes (numsOf_bytes lk) 100) (fldS_length _ _ (ce_len (k := 100) k3))
  have z5 : s5.size = 155 := size_of h5.out (fldS_bytes (numsOf_bytes pf) 155) (fldS_length _ _ (ce_len (k := 155) k4))
  have y1 : o1.size = 8 := size_of p1.out (fld_bytes 7 md) (fld_length 7 md)
  have y3 : o3.size = 12 := size_of p3.out (fld_bytes 11 sz) (fld_length 11 sz)
  have y8 : o8.size = 8 := size_of p8.out (fld_bytes 7 0) (fld_length 7 0)
  have y12 : o12.size = 12 := size_of p12.out (fld_bytes 11 0) (fld_length 11 0)
  have zx : x32.size = 32 := size_of q32.out (fldS_bytes (numsOf_bytes _) 32) rfl
  have zxx : xx.size = 12 := size_of qx.out (fldS_bytes (numsOf_bytes _) 12) rfl
  have zT : ST.size = 1 := size_of ht.out (one_byte (known_byte k1)) rfl
  clear hn hp hk k1 k2 k3 k4 k5 k6 hm hs h
  go_enter Tryz.func28, Tryz.ntmps28
  go_wp2_with (first | (refine wpList_box_obj rfl 67 _ rfl (hdV T nm pf lk md sz) rfl ?_; intro w1 h1 b1; have H1 := Lib.hid h1; have B1 := Lib.hid b1; clear h1 b1) | (refine wpList_load_obj rfl 67 6 HT.out _ rfl w.heap.size rfl _ (hdV T nm pf lk md sz) H1.out rfl ?_))
  refine (rcheck_any T nm pf lk md sz w1 HN.out HP.out HK.out).mono ?_; rintro e w2 ⟨rfl, b2⟩
  rw [HCK.out]
  have H2 := Lib.hid (H1.out.below b2 H1.out.lt)
  have B2 := Lib.hid (B1.out.trans (b2.mono B1.out.size)); clear b2
  go_wp2_with fail
  have KC : Hid (∀ w', Below w2.heap.size w2 w' → (fun w' => w'.cell? ⟨w.heap.size, 0, none⟩ = some (.int .u8 T) ∧ w'.cell? ⟨w.heap.size, 1, none⟩ = some (.string nm) ∧ w'.cell? ⟨w.heap.size, 2, none⟩ = some (.string pf) ∧ w'.cell? ⟨w.heap.size, 3, none⟩ = some (.string lk) ∧ w'.cell? ⟨w.heap.size, 4, none⟩ = some (.int .i64 md) ∧ w'.cell? ⟨w.heap.size, 5, none⟩ = some (.int .i64 sz)) w') := fun w' hb => by
    have ob := H2.out.below hb H2.out.lt
    exact ⟨ob.get 0 rfl, ob.get 1 rfl, ob.get 2 rfl, ob.get 3 rfl, ob.get 4 rfl, ob.get 5 rfl⟩
  have KDL : Hid (∀ wc x : World, x.heap = (wc.alloc (.cells #[.int .u8 T] 5 (0, 0))).heap → Below w2.heap.size w2 x → ∀ w', Below x.heap.size x w' → (fun w' => (convert 24 9 (.slice (some ⟨wc.heap.size, 0, none⟩) 1 1)).run Tryz.prog w' = .ok (.string ST) w' ∧ w'.cell? ⟨w.heap.size, 0, none⟩ = some (.int .u8 T) ∧ w'.cell? ⟨w.heap.size, 1, none⟩ = some (.string nm) ∧ w'.cell? ⟨w.heap.size, 2, none⟩ = some (.string pf) ∧ w'.cell? ⟨w.heap.size, 3, none⟩ = some (.string lk) ∧ w'.cell? ⟨w.heap.size, 4, none⟩ = some (.int .i64 md) ∧ w'.cell? ⟨w.heap.size, 5, none⟩ = some (.int .i64 sz)) w') := fun wc x hx hb w' hb' => by
    refine ⟨?_, KC.out w' (hb.trans (hb'.mono hb.size))⟩
    have hg : x.heap[wc.heap.size]? = some (.cells #[.int .u8 T] 5 (0, 0)) := by rw [hx]; exact heap_alloc_new wc _
    have hlt : wc.heap.size < x.heap.size := by rw [hx]; simp
    have hr : RowAt x wc.heap.size 0 [T] := ⟨fun i hi => by
      have : i = 0 := by simp at hi; exact hi
      subst this
      rw [cell_of_row _ _ _ _ _ _ hg]; rfl, one_byte HTB.out⟩
    rw [ht.out]
    exact run_str_of Tryz.underlying24 Tryz.underlying5 Tryz.underlying9 (hr.below hb' hlt) 1 1 rfl
  have BA0 : Hid (Below w2.heap.size w2 w2.drew) := (Below.refl _ _).drew
  refine wp_region_held_drew (S := (fun w' => w'.cell? ⟨w.heap.size, 0, none⟩ = some (.int .u8 T) ∧ w'.cell? ⟨w.heap.size, 1, none⟩ = some (.string nm) ∧ w'.cell? ⟨w.heap.size, 2, none⟩ = some (.string pf) ∧ w'.cell? ⟨w.heap.size, 3, none⟩ = some (.string lk) ∧ w'.cell? ⟨w.heap.size, 4, none⟩ = some (.int .i64 md) ∧ w'.cell? ⟨w.heap.size, 5, none⟩ = some (.int .i64 sz))) (by kernel_rfl) (KC.out _ (Below.refl _ _).drew) (fun hHeld => ?_)
  refine wpAnyH_take (i := 0) (oi := { dst := some 13, op := Go.Op.fieldAddr 67 (Go.Operand.tmp 1) 1, type := 0, pos := "ref.go:69", after := #[], guard := none }) (v := ?_) rfl (by kernel_rfl) (by kernel_rfl) (by kernel_rfl) (fun _ _ _ h => h) (Or.inl ⟨by rfl, ?_⟩) (by assumption) ?_
  rotate_left 1
  focus ((intro wS hSw; (try dsimp only at hSw); go_simp) <;> (try with_reducible rfl))
  simp only [Act.put, List.setIfInBounds_toArray, List.set_cons_zero, List.set_cons_succ]
  refine wpAnyH_take (i := 1) (oi := { dst := some 14, op := Go.Op.load 9 (Go.Operand.tmp 13), type := 9, pos := "ref.go:69", after := #[{ on := 0, ground := Go.Ground.data }], guard := none }) (v := ?_) rfl (by kernel_rfl) (by kernel_rfl) (by kernel_rfl) (fun _ _ _ h => h) (Or.inl ⟨by rfl, ?_⟩) (by assumption) ?_
  rotate_left 1
  focus ((intro wS hSw; (try dsimp only at hSw); go_simp) <;> (try with_reducible rfl))
  simp only [Act.put, List.setIfInBounds_toArray, List.set_cons_zero, List.set_cons_succ]
  refine wpAnyH_take (i := 3) (oi := { dst := some 16, op := Go.Op.fieldAddr 67 (Go.Operand.tmp 1) 4, type := 0, pos := "ref.go:69", after := #[], guard := none }) (v := ?_) rfl (by kernel_rfl) (by kernel_rfl) (by kernel_rfl) (fun _ _ _ h => h) (Or.inl ⟨by rfl, ?_⟩) (by assumption) ?_
  rotate_left 1
  focus ((intro wS hSw; (try dsimp only at hSw); go_simp) <;> (try with_reducible rfl))
  simp only [Act.put, List.setIfInBounds_toArray, List.set_cons_zero, List.set_cons_succ]
  refine wpAnyH_take (i := 4) (oi := { dst := some 17, op := Go.Op.load 3 (Go.Operand.tmp 16), type := 3, pos := "ref.go:69", after := #[{ on := 3, ground := Go.Ground.data }], guard := none }) (v := ?_) rfl (by kernel_rfl) (by kernel_rfl) (by kernel_rfl) (fun _ _ _ h => h) (Or.inl ⟨by rfl, ?_⟩) (by assumption) ?_
  rotate_left 1
  focus ((intro wS hSw; (try dsimp only at hSw); go_simp) <;> (try with_reducible rfl))
  simp only [Act.put, List.setIfInBounds_toArray, List.set_cons_zero, List.set_cons_succ]
  refine wpAnyH_take (i := 11) (oi := { dst := some 24, op := Go.Op.fieldAddr 67 (Go.Operand.tmp 1) 5, type := 0, pos := "ref.go:69", after := #[], guard := none }) (v := ?_) rfl (by kernel_rfl) (by kernel_rfl) (by kernel_rfl) (fun _ _ _ h => h) (Or.inl ⟨by rfl, ?_⟩) (by assumption) ?_
  rotate_left 1
  focus ((intro wS hSw; (try dsimp only at hSw); go_simp) <;> (try with_reducible rfl))
  simp only [Act.put, List.setIfInBounds_toArray, List.set_cons_zero, List.set_cons_succ]
  refine wpAnyH_take (i := 12) (oi := { dst := some 25, op := Go.Op.load 2 (Go.Operand.tmp 24), type := 2, pos := "ref.go:69", after := #[{ on := 11, ground := Go.Ground.data }], guard := none }) (v := ?_) rfl (by kernel_rfl) (by kernel_rfl) (by kernel_rfl) (fun _ _ _ h => h) (Or.inl ⟨by rfl, ?_⟩) (by assumption) ?_
  rotate_left 1
  focus ((intro wS hSw; (try dsimp only at hSw); go_simp) <;> (try with_reducible rfl))
  simp only [Act.put, List.setIfInBounds_toArray, List.set_cons_zero, List.set_cons_succ]
  refine wpAnyH_take (i := 18) (oi := { dst := some 31, op := Go.Op.fieldAddr 67 (Go.Operand.tmp 1) 0, type := 0, pos := "ref.go:69", after := #[], guard := none }) (v := ?_) rfl (by kernel_rfl) (by kernel_rfl) (by kernel_rfl) (fun _ _ _ h => h) (Or.inl ⟨by rfl, ?_⟩) (by assumption) ?_
  rotate_left 1
  focus ((intro wS hSw; (try dsimp only at hSw); go_simp) <;> (try with_reducible rfl))
  simp only [Act.put, List.setIfInBounds_toArray, List.set_cons_zero, List.set_cons_succ]
  refine wpAnyH_take (i := 19) (oi := { dst := some 32, op := Go.Op.load 5 (Go.Operand.tmp 31), type := 5, pos := "ref.go:69", after := #[{ on := 18, ground := Go.Ground.data }], guard := none }) (v := ?_) rfl (by kernel_rfl) (by kernel_rfl) (by kernel_rfl) (fun _ _ _ h => h) (Or.inl ⟨by rfl, ?_⟩) (by assumption) ?_
  rotate_left 1
  focus ((intro wS hSw; (try dsimp only at hSw); go_simp) <;> (try with_reducible rfl))
  simp only [Act.put, List.setIfInBounds_toArray, List.set_cons_zero, List.set_cons_succ]
  refine wpAnyH_take (i := 23) (oi := { dst := some 36, op := Go.Op.fieldAddr 67 (Go.Operand.tmp 1) 3, type := 0, pos := "ref.go:69", after := #[], guard := none }) (v := ?_) rfl (by kernel_rfl) (by kernel_rfl) (by kernel_rfl) (fun _ _ _ h => h) (Or.inl ⟨by rfl, ?_⟩) (by assumption) ?_
  rotate_left 1
  focus ((intro wS hSw; (try dsimp only at hSw); go_simp) <;> (try with_reducible rfl))
  simp only [Act.put, List.setIfInBounds_toArray, List.set_cons_zero, List.set_cons_succ]
  refine wpAnyH_take (i := 24) (oi := { dst := some 37, op := Go.Op.load 9 (Go.Operand.tmp 36), type := 9, pos := "ref.go:69", after := #[{ on := 23, ground := Go.Ground.data }], guard := none }) (v := ?_) rfl (by kernel_rfl) (by kernel_rfl) (by kernel_rfl) (fun _ _ _ h => h) (Or.inl ⟨by rfl, ?_⟩) (by assumption) ?_
  rotate_left 1
  focus ((intro wS hSw; (try dsimp only at hSw); go_simp) <;> (try with_reducible rfl))
  simp only [Act.put, List.setIfInBounds_toArray, List.set_cons_zero, List.set_cons_succ]
  refine wpAnyH_take (i := 36) (oi := { dst := some 49, op := Go.Op.fieldAddr 67 (Go.Operand.tmp 1) 2, type := 0, pos := "ref.go:69", after := #[], guard := none }) (v := ?_) rfl (by kernel_rfl) (by kernel_rfl) (by kernel_rfl) (fun _ _ _ h => h) (Or.inl ⟨by rfl, ?_⟩) (by assumption) ?_
  rotate_left 1
  focus ((intro wS hSw; (try dsimp only at hSw); go_simp) <;> (try with_reducible rfl))
  simp only [Act.put, List.setIfInBounds_toArray, List.set_cons_zero, List.set_cons_succ]
  refine wpAnyH_take (i := 37) (oi := { dst := some 50, op := Go.Op.load 9 (Go.Operand.tmp 49), type := 9, pos := "ref.go:69", after := #[{ on := 36, ground := Go.Ground.data }], guard := none }) (v := ?_) rfl (by kernel_rfl) (by kernel_rfl) (by kernel_rfl) (fun _ _ _ h => h) (Or.inl ⟨by rfl, ?_⟩) (by assumption) ?_
  rotate_left 1
  focus ((intro wS hSw; (try dsimp only at hSw); go_simp) <;> (try with_reducible rfl))
  simp only [Act.put, List.setIfInBounds_toArray, List.set_cons_zero, List.set_cons_succ]
  refine wpAnyH_ready (rs := [2, 20]) (by kernel_rfl) (by simp) ?_
  refine AllReadyH.cons (o := { dst := some 15, op := Go.Op.call { callee := Go.Callee.value (Go.Operand.func 66), args := #[Go.Operand.tmp 14, Go.Operand.const (Go.Value.int Go.IntKind.i64 100)], argTypes := #[9, 3] }, type := 9, pos := "ref.go:69", after := #[{ on := 1, ground := Go.Ground.data }], guard := none }) rfl (fun K hK => ?_) ?_
  rotate_left 1
  · refine AllReadyH.cons (o := { dst := some 33, op := Go.Op.buildSlice 24 1 #[(0, Go.Operand.tmp 32)], type := 24, pos := "ref.go:69", after := #[{ on := 19, ground := Go.Ground.data }], guard := none }) rfl (fun K hK => ?_) AllReadyH.nil
    go_simp
    obtain ⟨w3, hw3⟩ := named ((w2.alloc (.cells #[.int .u8 T] 5 (0, 0))).drew)
    rw [← hw3.out]
    have b3 : Below w2.drew.heap.size w2.drew w3 := by rw [hw3.out]; exact ⟨rfl, rfl, rfl, ((Below.refl w2.heap.size w2).alloc (Nat.le_refl _) _).size, ((Below.refl w2.heap.size w2).alloc (Nat.le_refl _) _).block⟩
    have BA3 := Lib.hid (BA0.out.trans (b3.mono BA0.out.size))
    have KD : Hid (∀ w', Below w3.heap.size w3 w' → (fun w' => (convert 24 9 (.slice (some ⟨w2.heap.size, 0, none⟩) 1 1)).run Tryz.prog w' = .ok (.string ST) w' ∧ w'.cell? ⟨w.heap.size, 0, none⟩ = some (.int .u8 T) ∧ w'.cell? ⟨w.heap.size, 1, none⟩ = some (.string nm) ∧ w'.cell? ⟨w.heap.size, 2, none⟩ = some (.string pf) ∧ w'.cell? ⟨w.heap.size, 3, none⟩ = some (.string lk) ∧ w'.cell? ⟨w.heap.size, 4, none⟩ = some (.int .i64 md) ∧ w'.cell? ⟨w.heap.size, 5, none⟩ = some (.int .i64 sz)) w') := KDL.out w2 w3 (by rw [hw3.out]; rfl) BA3.out
    clear b3
    refine hK.out _ _ (KC.out _ BA3.out) (fun hHeld => ?_)
    clear hK K
    (try simp only [Act.put, List.setIfInBounds_toArray, List.set_cons_zero, List.set_cons_succ])
    refine wpAnyH_switch (S2 := (fun w' => (convert 24 9 (.slice (some ⟨w2.heap.size, 0, none⟩) 1 1)).run Tryz.prog w' = .ok (.string ST) w' ∧ w'.cell? ⟨w.heap.size, 0, none⟩ = some (.int .u8 T) ∧ w'.cell? ⟨w.heap.size, 1, none⟩ = some (.string nm) ∧ w'.cell? ⟨w.heap.size, 2, none⟩ = some (.string pf) ∧ w'.cell? ⟨w.heap.size, 3, none⟩ = some (.string lk) ∧ w'.cell? ⟨w.heap.size, 4, none⟩ = some (.int .i64 md) ∧ w'.cell? ⟨w.heap.size, 5, none⟩ = some (.int .i64 sz))) (fun _ h => h.2) ?_
    have hHeld : ((fun w' => (convert 24 9 (.slice (some ⟨w2.heap.size, 0, none⟩) 1 1)).run Tryz.prog w' = .ok (.string ST) w' ∧ w'.cell? ⟨w.heap.size, 0, none⟩ = some (.int .u8 T) ∧ w'.cell? ⟨w.heap.size, 1, none⟩ = some (.string nm) ∧ w'.cell? ⟨w.heap.size, 2, none⟩ = some (.string pf) ∧ w'.cell? ⟨w.heap.size, 3, none⟩ = some (.string lk) ∧ w'.cell? ⟨w.heap.size, 4, none⟩ = some (.int .i64 md) ∧ w'.cell? ⟨w.heap.size, 5, none⟩ = some (.int .i64 sz))) w3 := KD.out _ (Below.refl _ _)
    refine wpAnyH_take (i := 21) (oi := { dst := some 34, op := Go.Op.convert 24 9 (Go.Operand.tmp 33), type := 9, pos := "ref.go:69", after := #[{ on := 20, ground := Go.Ground.data }], guard := none }) (v := ?_) rfl (by kernel_rfl) (by kernel_rfl) (by kernel_rfl) (fun _ _ _ h => h) (Or.inl ⟨by rfl, ?_⟩) (by assumption) ?_
    rotate_left 1
    focus ((intro wS hSw; (try dsimp only at hSw); go_simp) <;> (try with_reducible rfl))
    simp only [Act.put, List.setIfInBounds_toArray, List.set_cons_zero, List.set_cons_succ]
    refine wpAnyH_ready (rs := [2]) (by kernel_rfl) (by simp) ?_
    refine AllReadyH.cons (o := { dst := some 15, op := Go.Op.call { callee := Go.Callee.value (Go.Operand.func 66), args := #[Go.Operand.tmp 14, Go.Operand.const (Go.Value.int Go.IntKind.i64 100)], argTypes := #[9, 3] }, type := 9, pos := "ref.go:69", after := #[{ on := 1, ground := Go.Ground.data }], guard := none }) rfl (fun K hK => ?_) AllReadyH.nil
    go_simp
    refine (N1.out w3).mono ?_; rintro e w4 ⟨rfl, b⟩
    have BA4 := Lib.hid (BA3.out.trans (b.mono BA3.out.size))
    have BX4 := Lib.hid b
    clear b
    go_wp2_with fail
    refine hK.out _ _ (KD.out _ BX4.out) (fun hHeld => ?_)
    clear hK K
    (try simp only [Act.put, List.setIfInBounds_toArray, List.set_cons_zero, List.set_cons_succ])
    refine wpAnyH_ready (rs := [5]) (by kernel_rfl) (by simp) ?_
    refine AllReadyH.cons (o := { dst := some 18, op := Go.Op.call { callee := Go.Callee.value (Go.Operand.func 67), args := #[Go.Operand.tmp 17, Go.Operand.const (Go.Value.int Go.IntKind.i64 8)], argTypes := #[2, 3] }, type := 9, pos := "ref.go:69", after := #[{ on := 4, ground := Go.Ground.data }, { on := 2, ground := Go.Ground.chain }], guard := none }) rfl (fun K hK => ?_) AllReadyH.nil
    go_simp
    refine (N2.out w4).mono ?_; rintro e w5 ⟨rfl, b⟩
    have BA5 := Lib.hid (BA4.out.trans (b.mono BA4.out.size))
    have BX5 := Lib.hid (BX4.out.trans (b.mono BX4.out.size))
    clear b
    go_wp2_with fail
    refine hK.out _ _ (KD.out _ BX5.out) (fun hHeld => ?_)
    clear hK K
    (try simp only [Act.put, List.setIfInBounds_toArray, List.set_cons_zero, List.set_cons_succ])
    refine wpAnyH_take (i := 6) (oi := { dst := some 19, op := Go.Op.binOp Go.BinOp.add 9 (Go.Operand.tmp 15) (Go.Operand.tmp 18) 9, type := 9, pos := "ref.go:69", after := #[{ on := 2, ground := Go.Ground.data }, { on := 5, ground := Go.Ground.data }], guard := none }) (v := ?_) rfl (by kernel_rfl) (by kernel_rfl) (by kernel_rfl) (fun _ _ _ h => h) (Or.inl ⟨by rfl, ?_⟩) (by assumption) ?_
    rotate_left 1
    focus ((intro wS hSw; (try dsimp only at hSw); go_simp) <;> (try with_reducible rfl))
    simp only [Act.put, List.setIfInBounds_toArray, List.set_cons_zero, List.set_cons_succ]
    refine wpAnyH_ready (rs := [7]) (by kernel_rfl) (by simp) ?_
    refine AllReadyH.cons (o := { dst := some 20, op := Go.Op.call { callee := Go.Callee.value (Go.Operand.func 67), args := #[Go.Operand.const (Go.Value.int Go.IntKind.i64 0), Go.Operand.const (Go.Value.int Go.IntKind.i64 8)], argTypes := #[2, 3] }, type := 9, pos := "ref.go:69", after := #[{ on := 5, ground := Go.Ground.chain }], guard := none }) rfl (fun K hK => ?_) AllReadyH.nil
    go_simp
    refine (N8.out w5).mono ?_; rintro e w6 ⟨rfl, b⟩
    have BA6 := Lib.hid (BA5.out.trans (b.mono BA5.out.size))
    have BX6 := Lib.hid (BX5.out.trans (b.mono BX5.out.size))
    clear b
    go_wp2_with fail
    refine hK.out _ _ (KD.out _ BX6.out) (fun hHeld => ?_)
    clear hK K
    (try simp only [Act.put, List.setIfInBounds_toArray, List.set_cons_zero, List.set_cons_succ])
    refine wpAnyH_take (i := 8) (oi := { dst := some 21, op := Go.Op.binOp Go.BinOp.add 9 (Go.Operand.tmp 19) (Go.Operand.tmp 20) 9, type := 9, pos := "ref.go:69", after := #[{ on := 6, ground := Go.Ground.data }, { on := 7, ground := Go.Ground.data }], guard := none }) (v := ?_) rfl (by kernel_rfl) (by kernel_rfl) (by kernel_rfl) (fun _ _ _ h => h) (Or.inl ⟨by rfl, ?_⟩) (by assumption) ?_
    rotate_left 1
    focus ((intro wS hSw; (try dsimp only at hSw); go_simp) <;> (try with_reducible rfl))
    simp only [Act.put, List.setIfInBounds_toArray, List.set_cons_zero, List.set_cons_succ]
    refine wpAnyH_ready (rs := [9]) (by kernel_rfl) (by simp) ?_
    refine AllReadyH.cons (o := { dst := some 22, op := Go.Op.call { callee := Go.Callee.value (Go.Operand.func 67), args := #[Go.Operand.const (Go.Value.int Go.IntKind.i64 0), Go.Operand.const (Go.Value.int Go.IntKind.i64 8)], argTypes := #[2, 3] }, type := 9, pos := "ref.go:69", after := #[{ on := 7, ground := Go.Ground.chain }], guard := none }) rfl (fun K hK => ?_) AllReadyH.nil
    go_simp
    refine (N8.out w6).mono ?_; rintro e w7 ⟨rfl, b⟩
    have BA7 := Lib.hid (BA6.out.trans (b.mono BA6.out.size))
    have BX7 := Lib.hid (BX6.out.trans (b.mono BX6.out.size))
    clear b
    go_wp2_with fail
    refine hK.out _ _ (KD.out _ BX7.out) (fun hHeld => ?_)
    clear hK K
    (try simp only [Act.put, List.setIfInBounds_toArray, List.set_cons_zero, List.set_cons_succ])
    refine wpAnyH_take (i := 10) (oi := { dst := some 23, op := Go.Op.binOp Go.BinOp.add 9 (Go.Operand.tmp 21) (Go.Operand.tmp 22) 9, type := 9, pos := "ref.go:69", after := #[{ on := 8, ground := Go.Ground.data }, { on := 9, ground := Go.Ground.data }], guard := none }) (v := ?_) rfl (by kernel_rfl) (by kernel_rfl) (by kernel_rfl) (fun _ _ _ h => h) (Or.inl ⟨by rfl, ?_⟩) (by assumption) ?_
    rotate_left 1
    focus ((intro wS hSw; (try dsimp only at hSw); go_simp) <;> (try with_reducible rfl))
    simp only [Act.put, List.setIfInBounds_toArray, List.set_cons_zero, List.set_cons_succ]
    refine wpAnyH_ready (rs := [13]) (by kernel_rfl) (by simp) ?_
    refine AllReadyH.cons (o := { dst := some 26, op := Go.Op.call { callee := Go.Callee.value (Go.Operand.func 67), args := #[Go.Operand.tmp 25, Go.Operand.const (Go.Value.int Go.IntKind.i64 12)], argTypes := #[2, 3] }, type := 9, pos := "ref.go:69", after := #[{ on := 12, ground := Go.Ground.data }, { on := 9, ground := Go.Ground.chain }], guard := none }) rfl (fun K hK => ?_) AllReadyH.nil
    go_simp
    refine (N3.out w7).mono ?_; rintro e w8 ⟨rfl, b⟩
    have BA8 := Lib.hid (BA7.out.trans (b.mono BA7.out.size))
    have BX8 := Lib.hid (BX7.out.trans (b.mono BX7.out.size))
    clear b
    go_wp2_with fail
    refine hK.out _ _ (KD.out _ BX8.out) (fun hHeld => ?_)
    clear hK K
    (try simp only [Act.put, List.setIfInBounds_toArray, List.set_cons_zero, List.set_cons_succ])
    refine wpAnyH_take (i := 14) (oi := { dst := some 27, op := Go.Op.binOp Go.BinOp.add 9 (Go.Operand.tmp 23) (Go.Operand.tmp 26) 9, type := 9, pos := "ref.go:69", after := #[{ on := 10, ground := Go.Ground.data }, { on := 13, ground := Go.Ground.data }], guard := none }) (v := ?_) rfl (by kernel_rfl) (by kernel_rfl) (by kernel_rfl) (fun _ _ _ h => h) (Or.inl ⟨by rfl, ?_⟩) (by assumption) ?_
    rotate_left 1
    focus ((intro wS hSw; (try dsimp only at hSw); go_simp) <;> (try with_reducible rfl))
    simp only [Act.put, List.setIfInBounds_toArray, List.set_cons_zero, List.set_cons_succ]
    refine wpAnyH_ready (rs := [15]) (by kernel_rfl) (by simp) ?_
    refine AllReadyH.cons (o := { dst := some 28, op := Go.Op.call { callee := Go.Callee.value (Go.Operand.func 67), args := #[Go.Operand.const (Go.Value.int Go.IntKind.i64 0), Go.Operand.const (Go.Value.int Go.IntKind.i64 12)], argTypes := #[2, 3] }, type := 9, pos := "ref.go:69", after := #[{ on := 13, ground := Go.Ground.chain }], guard := none }) rfl (fun K hK => ?_) AllReadyH.nil
    go_simp
    refine (N12.out w8).mono ?_; rintro e w9 ⟨rfl, b⟩
    have BA9 := Lib.hid (BA8.out.trans (b.mono BA8.out.size))
    have BX9 := Lib.hid (BX8.out.trans (b.mono BX8.out.size))
    clear b
    go_wp2_with fail
    refine hK.out _ _ (KD.out _ BX9.out) (fun hHeld => ?_)
    clear hK K
    (try simp only [Act.put, List.setIfInBounds_toArray, List.set_cons_zero, List.set_cons_succ])
    refine wpAnyH_take (i := 16) (oi := { dst := some 29, op := Go.Op.binOp Go.BinOp.add 9 (Go.Operand.tmp 27) (Go.Operand.tmp 28) 9, type := 9, pos := "ref.go:69", after := #[{ on := 14, ground := Go.Ground.data }, { on := 15, ground := Go.Ground.data }], guard := none }) (v := ?_) rfl (by kernel_rfl) (by kernel_rfl) (by kernel_rfl) (fun _ _ _ h => h) (Or.inl ⟨by rfl, ?_⟩) (by assumption) ?_
    rotate_left 1
    focus ((intro wS hSw; (try dsimp only at hSw); go_simp) <;> (try with_reducible rfl))
    simp only [Act.put, List.setIfInBounds_toArray, List.set_cons_zero, List.set_cons_succ]
    refine wpAnyH_take (i := 17) (oi := { dst := some 30, op := Go.Op.binOp Go.BinOp.add 9 (Go.Operand.tmp 29) (Go.Operand.const (Go.Value.string { data := #[32, 32, 32, 32, 32, 32, 32, 32] })) 9, type := 9, pos := "ref.go:69", after := #[{ on := 16, ground := Go.Ground.data }], guard := none }) (v := ?_) rfl (by kernel_rfl) (by kernel_rfl) (by kernel_rfl) (fun _ _ _ h => h) (Or.inl ⟨by rfl, ?_⟩) (by assumption) ?_
    rotate_left 1
    focus ((intro wS hSw; (try dsimp only at hSw); go_simp) <;> (try with_reducible rfl))
    simp only [Act.put, List.setIfInBounds_toArray, List.set_cons_zero, List.set_cons_succ]
    refine wpAnyH_take (i := 22) (oi := { dst := some 35, op := Go.Op.binOp Go.BinOp.add 9 (Go.Operand.tmp 30) (Go.Operand.tmp 34) 9, type := 9, pos := "ref.go:69", after := #[{ on := 17, ground := Go.Ground.data }, { on := 21, ground := Go.Ground.data }], guard := none }) (v := ?_) rfl (by kernel_rfl) (by kernel_rfl) (by kernel_rfl) (fun _ _ _ h => h) (Or.inl ⟨by rfl, ?_⟩) (by assumption) ?_
    rotate_left 1
    focus ((intro wS hSw; (try dsimp only at hSw); go_simp) <;> (try with_reducible rfl))
    simp only [Act.put, List.setIfInBounds_toArray, List.set_cons_zero, List.set_cons_succ]
    refine wpAnyH_ready (rs := [25]) (by kernel_rfl) (by simp) ?_
    refine AllReadyH.cons (o := { dst := some 38, op := Go.Op.call { callee := Go.Callee.value (Go.Operand.func 66), args := #[Go.Operand.tmp 37, Go.Operand.const (Go.Value.int Go.IntKind.i64 100)], argTypes := #[9, 3] }, type := 9, pos := "ref.go:69", after := #[{ on := 24, ground := Go.Ground.data }, { on := 15, ground := Go.Ground.chain }], guard := none }) rfl (fun K hK => ?_) AllReadyH.nil
    go_simp
    refine (N4.out w9).mono ?_; rintro e w10 ⟨rfl, b⟩
    have BA10 := Lib.hid (BA9.out.trans (b.mono BA9.out.size))
    have BX10 := Lib.hid (BX9.out.trans (b.mono BX9.out.size))
    clear b
    go_wp2_with fail
    refine hK.out _ _ (KD.out _ BX10.out) (fun hHeld => ?_)
    clear hK K
    (try simp only [Act.put, List.setIfInBounds_toArray, List.set_cons_zero, List.set_cons_succ])
    refine wpAnyH_take (i := 26) (oi := { dst := some 39, op := Go.Op.binOp Go.BinOp.add 9 (Go.Operand.tmp 35) (Go.Operand.tmp 38) 9, type := 9, pos := "ref.go:69", after := #[{ on := 22, ground := Go.Ground.data }, { on := 25, ground := Go.Ground.data }], guard := none }) (v := ?_) rfl (by kernel_rfl) (by kernel_rfl) (by kernel_rfl) (fun _ _ _ h => h) (Or.inl ⟨by rfl, ?_⟩) (by assumption) ?_
    rotate_left 1
    focus ((intro wS hSw; (try dsimp only at hSw); go_simp) <;> (try with_reducible rfl))
    simp only [Act.put, List.setIfInBounds_toArray, List.set_cons_zero, List.set_cons_succ]
    refine wpAnyH_take (i := 27) (oi := { dst := some 40, op := Go.Op.binOp Go.BinOp.add 9 (Go.Operand.tmp 39) (Go.Operand.const (Go.Value.string { data := #[117, 115, 116, 97, 114, 0, 48, 48] })) 9, type := 9, pos := "ref.go:69", after := #[{ on := 26, ground := Go.Ground.data }], guard := none }) (v := ?_) rfl (by kernel_rfl) (by kernel_rfl) (by kernel_rfl) (fun _ _ _ h => h) (Or.inl ⟨by rfl, ?_⟩) (by assumption) ?_
    rotate_left 1
    focus ((intro wS hSw; (try dsimp only at hSw); go_simp) <;> (try with_reducible rfl))
    simp only [Act.put, List.setIfInBounds_toArray, List.set_cons_zero, List.set_cons_succ]
    refine wpAnyH_ready (rs := [28]) (by kernel_rfl) (by simp) ?_
    refine AllReadyH.cons (o := { dst := some 41, op := Go.Op.call { callee := Go.Callee.value (Go.Operand.func 66), args := #[Go.Operand.const (Go.Value.string { data := #[] }), Go.Operand.const (Go.Value.int Go.IntKind.i64 32)], argTypes := #[9, 3] }, type := 9, pos := "ref.go:69", after := #[{ on := 25, ground := Go.Ground.chain }], guard := none }) rfl (fun K hK => ?_) AllReadyH.nil
    go_simp
    refine (N32.out w10).mono ?_; rintro e w11 ⟨rfl, b⟩
    have BA11 := Lib.hid (BA10.out.trans (b.mono BA10.out.size))
    have BX11 := Lib.hid (BX10.out.trans (b.mono BX10.out.size))
    clear b
    go_wp2_with fail
    refine hK.out _ _ (KD.out _ BX11.out) (fun hHeld => ?_)
    clear hK K
    (try simp only [Act.put, List.setIfInBounds_toArray, List.set_cons_zero, List.set_cons_succ])
    refine wpAnyH_take (i := 29) (oi := { dst := some 42, op := Go.Op.binOp Go.BinOp.add 9 (Go.Operand.tmp 40) (Go.Operand.tmp 41) 9, type := 9, pos := "ref.go:69", after := #[{ on := 27, ground := Go.Ground.data }, { on := 28, ground := Go.Ground.data }], guard := none }) (v := ?_) rfl (by kernel_rfl) (by kernel_rfl) (by kernel_rfl) (fun _ _ _ h => h) (Or.inl ⟨by rfl, ?_⟩) (by assumption) ?_
    rotate_left 1
    focus ((intro wS hSw; (try dsimp only at hSw); go_simp) <;> (try with_reducible rfl))
    simp only [Act.put, List.setIfInBounds_toArray, List.set_cons_zero, List.set_cons_succ]
    refine wpAnyH_ready (rs := [30]) (by kernel_rfl) (by simp) ?_
    refine AllReadyH.cons (o := { dst := some 43, op := Go.Op.call { callee := Go.Callee.value (Go.Operand.func 66), args := #[Go.Operand.const (Go.Value.string { data := #[] }), Go.Operand.const (Go.Value.int Go.IntKind.i64 32)], argTypes := #[9, 3] }, type := 9, pos := "ref.go:69", after := #[{ on := 28, ground := Go.Ground.chain }], guard := none }) rfl (fun K hK => ?_) AllReadyH.nil
    go_simp
    refine (N32.out w11).mono ?_; rintro e w12 ⟨rfl, b⟩
    have BA12 := Lib.hid (BA11.out.trans (b.mono BA11.out.size))
    have BX12 := Lib.hid (BX11.out.trans (b.mono BX11.out.size))
    clear b
    go_wp2_with fail
    refine hK.out _ _ (KD.out _ BX12.out) (fun hHeld => ?_)
    clear hK K
    (try simp only [Act.put, List.setIfInBounds_toArray, List.set_cons_zero, List.set_cons_succ])
    refine wpAnyH_take (i := 31) (oi := { dst := some 44, op := Go.Op.binOp Go.BinOp.add 9 (Go.Operand.tmp 42) (Go.Operand.tmp 43) 9, type := 9, pos := "ref.go:69", after := #[{ on := 29, ground := Go.Ground.data }, { on := 30, ground := Go.Ground.data }], guard := none }) (v := ?_) rfl (by kernel_rfl) (by kernel_rfl) (by kernel_rfl) (fun _ _ _ h => h) (Or.inl ⟨by rfl, ?_⟩) (by assumption) ?_
    rotate_left 1
    focus ((intro wS hSw; (try dsimp only at hSw); go_simp) <;> (try with_reducible rfl))
    simp only [Act.put, List.setIfInBounds_toArray, List.set_cons_zero, List.set_cons_succ]
    refine wpAnyH_ready (rs := [32]) (by kernel_rfl) (by simp) ?_
    refine AllReadyH.cons (o := { dst := some 45, op := Go.Op.call { callee := Go.Callee.value (Go.Operand.func 67), args := #[Go.Operand.const (Go.Value.int Go.IntKind.i64 0), Go.Operand.const (Go.Value.int Go.IntKind.i64 8)], argTypes := #[2, 3] }, type := 9, pos := "ref.go:69", after := #[{ on := 30, ground := Go.Ground.chain }], guard := none }) rfl (fun K hK => ?_) AllReadyH.nil
    go_simp
    refine (N8.out w12).mono ?_; rintro e w13 ⟨rfl, b⟩
    have BA13 := Lib.hid (BA12.out.trans (b.mono BA12.out.size))
    have BX13 := Lib.hid (BX12.out.trans (b.mono BX12.out.size))
    clear b
    go_wp2_with fail
    refine hK.out _ _ (KD.out _ BX13.out) (fun hHeld => ?_)
    clear hK K
    (try simp only [Act.put, List.setIfInBounds_toArray, List.set_cons_zero, List.set_cons_succ])
    refine wpAnyH_take (i := 33) (oi := { dst := some 46, op := Go.Op.binOp Go.BinOp.add 9 (Go.Operand.tmp 44) (Go.Operand.tmp 45) 9, type := 9, pos := "ref.go:69", after := #[{ on := 31, ground := Go.Ground.data }, { on := 32, ground := Go.Ground.data }], guard := none }) (v := ?_) rfl (by kernel_rfl) (by kernel_rfl) (by kernel_rfl) (fun _ _ _ h => h) (Or.inl ⟨by rfl, ?_⟩) (by assumption) ?_
    rotate_left 1
    focus ((intro wS hSw; (try dsimp only at hSw); go_simp) <;> (try with_reducible rfl))
    simp only [Act.put, List.setIfInBounds_toArray, List.set_cons_zero, List.set_cons_succ]
    refine wpAnyH_ready (rs := [34]) (by kernel_rfl) (by simp) ?_
    refine AllReadyH.cons (o := { dst := some 47, op := Go.Op.call { callee := Go.Callee.value (Go.Operand.func 67), args := #[Go.Operand.const (Go.Value.int Go.IntKind.i64 0), Go.Operand.const (Go.Value.int Go.IntKind.i64 8)], argTypes := #[2, 3] }, type := 9, pos := "ref.go:69", after := #[{ on := 32, ground := Go.Ground.chain }], guard := none }) rfl (fun K hK => ?_) AllReadyH.nil
    go_simp
    refine (N8.out w13).mono ?_; rintro e w14 ⟨rfl, b⟩
    have BA14 := Lib.hid (BA13.out.trans (b.mono BA13.out.size))
    have BX14 := Lib.hid (BX13.out.trans (b.mono BX13.out.size))
    clear b
    go_wp2_with fail
    refine hK.out _ _ (KD.out _ BX14.out) (fun hHeld => ?_)
    clear hK K
    (try simp only [Act.put, List.setIfInBounds_toArray, List.set_cons_zero, List.set_cons_succ])
    refine wpAnyH_take (i := 35) (oi := { dst := some 48, op := Go.Op.binOp Go.BinOp.add 9 (Go.Operand.tmp 46) (Go.Operand.tmp 47) 9, type := 9, pos := "ref.go:69", after := #[{ on := 33, ground := Go.Ground.data }, { on := 34, ground := Go.Ground.data }], guard := none }) (v := ?_) rfl (by kernel_rfl) (by kernel_rfl) (by kernel_rfl) (fun _ _ _ h => h) (Or.inl ⟨by rfl, ?_⟩) (by assumption) ?_
    rotate_left 1
    focus ((intro wS hSw; (try dsimp only at hSw); go_simp) <;> (try with_reducible rfl))
    simp only [Act.put, List.setIfInBounds_toArray, List.set_cons_zero, List.set_cons_succ]
    refine wpAnyH_ready (rs := [38]) (by kernel_rfl) (by simp) ?_
    refine AllReadyH.cons (o := { dst := some 51, op := Go.Op.call { callee := Go.Callee.value (Go.Operand.func 66), args := #[Go.Operand.tmp 50, Go.Operand.const (Go.Value.int Go.IntKind.i64 155)], argTypes := #[9, 3] }, type := 9, pos := "ref.go:69", after := #[{ on := 37, ground := Go.Ground.data }, { on := 34, ground := Go.Ground.chain }], guard := none }) rfl (fun K hK => ?_) AllReadyH.nil
    go_simp
    refine (N5.out w14).mono ?_; rintro e w15 ⟨rfl, b⟩
    have BA15 := Lib.hid (BA14.out.trans (b.mono BA14.out.size))
    have BX15 := Lib.hid (BX14.out.trans (b.mono BX14.out.size))
    clear b
    go_wp2_with fail
    refine hK.out _ _ (KD.out _ BX15.out) (fun hHeld => ?_)
    clear hK K
    (try simp only [Act.put, List.setIfInBounds_toArray, List.set_cons_zero, List.set_cons_succ])
    refine wpAnyH_take (i := 39) (oi := { dst := some 52, op := Go.Op.binOp Go.BinOp.add 9 (Go.Operand.tmp 48) (Go.Operand.tmp 51) 9, type := 9, pos := "ref.go:69", after := #[{ on := 35, ground := Go.Ground.data }, { on := 38, ground := Go.Ground.data }], guard := none }) (v := ?_) rfl (by kernel_rfl) (by kernel_rfl) (by kernel_rfl) (fun _ _ _ h => h) (Or.inl ⟨by rfl, ?_⟩) (by assumption) ?_
    rotate_left 1
    focus ((intro wS hSw; (try dsimp only at hSw); go_simp) <;> (try with_reducible rfl))
    simp only [Act.put, List.setIfInBounds_toArray, List.set_cons_zero, List.set_cons_succ]
    refine wpAnyH_ready (rs := [40]) (by kernel_rfl) (by simp) ?_
    refine AllReadyH.cons (o := { dst := some 53, op := Go.Op.call { callee := Go.Callee.value (Go.Operand.func 66), args := #[Go.Operand.const (Go.Value.string { data := #[] }), Go.Operand.const (Go.Value.int Go.IntKind.i64 12)], argTypes := #[9, 3] }, type := 9, pos := "ref.go:69", after := #[{ on := 38, ground := Go.Ground.chain }], guard := none }) rfl (fun K hK => ?_) AllReadyH.nil
    go_simp
    refine (NX.out w15).mono ?_; rintro e w16 ⟨rfl, b⟩
    have BA16 := Lib.hid (BA15.out.trans (b.mono BA15.out.size))
    have BX16 := Lib.hid (BX15.out.trans (b.mono BX15.out.size))
    clear b
    go_wp2_with fail
    refine hK.out _ _ (KD.out _ BX16.out) (fun hHeld => ?_)
    clear hK K
    (try simp only [Act.put, List.setIfInBounds_toArray, List.set_cons_zero, List.set_cons_succ])
    refine wpAnyH_take (i := 41) (oi := { dst := some 54, op := Go.Op.binOp Go.BinOp.add 9 (Go.Operand.tmp 52) (Go.Operand.tmp 53) 9, type := 9, pos := "ref.go:69", after := #[{ on := 39, ground := Go.Ground.data }, { on := 40, ground := Go.Ground.data }], guard := none }) (v := ?_) rfl (by kernel_rfl) (by kernel_rfl) (by kernel_rfl) (fun _ _ _ h => h) (Or.inl ⟨by rfl, ?_⟩) (by assumption) ?_
    rotate_left 1
    focus ((intro wS hSw; (try dsimp only at hSw); go_simp) <;> (try with_reducible rfl))
    simp only [Act.put, List.setIfInBounds_toArray, List.set_cons_zero, List.set_cons_succ]
    refine wpAnyH_take (i := 42) (oi := { dst := some 5, op := Go.Op.assign (Go.Operand.tmp 54), type := 9, pos := "ref.go:69", after := #[{ on := 41, ground := Go.Ground.data }, { on := 40, ground := Go.Ground.chain }, { on := 0, ground := Go.Ground.phase }, { on := 1, ground := Go.Ground.phase }, { on := 2, ground := Go.Ground.phase }, { on := 3, ground := Go.Ground.phase }, { on := 4, ground := Go.Ground.phase }, { on := 5, ground := Go.Ground.phase }, { on := 6, ground := Go.Ground.phase }, { on := 7, ground := Go.Ground.phase }, { on := 8, ground := Go.Ground.phase }, { on := 9, ground := Go.Ground.phase }, { on := 10, ground := Go.Ground.phase }, { on := 11, ground := Go.Ground.phase }, { on := 12, ground := Go.Ground.phase }, { on := 13, ground := Go.Ground.phase }, { on := 14, ground := Go.Ground.phase }, { on := 15, ground := Go.Ground.phase }, { on := 16, ground := Go.Ground.phase }, { on := 17, ground := Go.Ground.phase }, { on := 18, ground := Go.Ground.phase }, { on := 19, ground := Go.Ground.phase }, { on := 20, ground := Go.Ground.phase }, { on := 21, ground := Go.Ground.phase }, { on := 22, ground := Go.Ground.phase }, { on := 23, ground := Go.Ground.phase }, { on := 24, ground := Go.Ground.phase }, { on := 25, ground := Go.Ground.phase }, { on := 26, ground := Go.Ground.phase }, { on := 27, ground := Go.Ground.phase }, { on := 28, ground := Go.Ground.phase }, { on := 29, ground := Go.Ground.phase }, { on := 30, ground := Go.Ground.phase }, { on := 31, ground := Go.Ground.phase }, { on := 32, ground := Go.Ground.phase }, { on := 33, ground := Go.Ground.phase }, { on := 34, ground := Go.Ground.phase }, { on := 35, ground := Go.Ground.phase }, { on := 36, ground := Go.Ground.phase }, { on := 37, ground := Go.Ground.phase }, { on := 38, ground := Go.Ground.phase }, { on := 39, ground := Go.Ground.phase }, { on := 40, ground := Go.Ground.phase }, { on := 41, ground := Go.Ground.phase }], guard := none }) (v := ?_) rfl (by kernel_rfl) (by kernel_rfl) (by kernel_rfl) (fun _ _ _ h => h) (Or.inl ⟨by rfl, ?_⟩) (by assumption) ?_
    rotate_left 1
    focus ((intro wS hSw; (try dsimp only at hSw); go_simp) <;> (try with_reducible rfl))
    simp only [Act.put, List.setIfInBounds_toArray, List.set_cons_zero, List.set_cons_succ]
    refine wpAnyH_done (by kernel_rfl) ?_ _
    obtain ⟨S9, hS9⟩ := named (((((((((((((((s1 ++ o1) ++ o8) ++ o8) ++ o3) ++ o12) ++ { data := #[32, 32, 32, 32, 32, 32, 32, 32] }) ++ ST) ++ s4) ++ { data := #[117, 115, 116, 97, 114, 0, 48, 48] }) ++ x32) ++ x32) ++ o8) ++ o8) ++ s5) ++ xx)
    rw [← hS9.out]
    have hz : numsOf S9 = rawH T nm pf lk md sz := hS9.out ▸ HBIG.out
    have hsz : S9.size = 512 := by rw [← numsOf_length, hz]; exact HRL.out
    obtain ⟨c9, w9, hrun, hrow, hbel, hlt⟩ := run_bytes_of (P := Tryz.prog) w16 Tryz.underlying9 Tryz.underlying24 Tryz.underlying5 S9
    rw [hsz] at hrun
    rw [hz] at hrow
    have hcap : Hid (512 ≤ c9) := CAP.out _ _ _ _ hsz hrun
    have B9 := Lib.hid (BA16.out.trans (hbel.mono BA16.out.size)); have R9 := Lib.hid (BytesIn.of_row hrow hlt)
    clear hbel hrow hlt
    go_wp2_with fail
    refine (Chk.rseal_ok _ c9 _ w9 HRL.out R9.out hcap.out).mono ?_; rintro e w10 ⟨b10, c10, rfl, hr10, hl10, hb10⟩
    have B10 := Lib.hid (B9.out.trans (hb10.mono B9.out.size)); have R10 := Lib.hid hr10; have L10 := Lib.hid hl10
    clear hr10 hl10 hb10
    go_wp2_with fail
    go_ret2
    exact ⟨b10, c10, rfl, R10.out, L10.out, B2.out.trans (B10.out.mono B2.out.size)⟩
  go_simp
  refine (N1.out w2.drew).mono ?_; rintro e w17 ⟨rfl, b⟩
  have BA17 := Lib.hid (BA0.out.trans (b.mono BA0.out.size))
  clear b
  go_wp2_with fail
  refine hK.out _ _ (KC.out _ BA17.out) (fun hHeld => ?_)
  clear hK K
  (try simp only [Act.put, List.setIfInBounds_toArray, List.set_cons_zero, List.set_cons_succ])
  refine wpAnyH_ready (rs := [5, 20]) (by kernel_rfl) (by simp) ?_
  refine AllReadyH.cons (o := { dst := some 18, op := Go.Op.call { callee := Go.Callee.value (Go.Operand.func 67), args := #[Go.Operand.tmp 17, Go.Operand.const (Go.Value.int Go.IntKind.i64 8)], argTypes := #[2, 3] }, type := 9, pos := "ref.go:69", after := #[{ on := 4, ground := Go.Ground.data }, { on := 2, ground := Go.Ground.chain }], guard := none }) rfl (fun K hK => ?_) ?_
  rotate_left 1
  · refine AllReadyH.cons (o := { dst := some 33, op := Go.Op.buildSlice 24 1 #[(0, Go.Operand.tmp 32)], type := 24, pos := "ref.go:69", after := #[{ on := 19, ground := Go.Ground.data }], guard := none }) rfl (fun K hK => ?_) AllReadyH.nil
    go_simp
    obtain ⟨w18, hw18⟩ := named (w17.alloc (.cells #[.int .u8 T] 5 (0, 0)))
    rw [← hw18.out]
    have b18 : Below w17.heap.size w17 w18 := by rw [hw18.out]; exact (Below.refl _ _).alloc (Nat.le_refl _) _
    have BA18 := Lib.hid (BA17.out.trans (b18.mono BA17.out.size))
    have KD : Hid (∀ w', Below w18.heap.size w18 w' → (fun w' => (convert 24 9 (.slice (some ⟨w17.heap.size, 0, none⟩) 1 1)).run Tryz.prog w' = .ok (.string ST) w' ∧ w'.cell? ⟨w.heap.size, 0, none⟩ = some (.int .u8 T) ∧ w'.cell? ⟨w.heap.size, 1, none⟩ = some (.string nm) ∧ w'.cell? ⟨w.heap.size, 2, none⟩ = some (.string pf) ∧ w'.cell? ⟨w.heap.size, 3, none⟩ = some (.string lk) ∧ w'.cell? ⟨w.heap.size, 4, none⟩ = some (.int .i64 md) ∧ w'.cell? ⟨w.heap.size, 5, none⟩ = some (.int .i64 sz)) w') := KDL.out w17 w18 (by rw [hw18.out]) BA18.out
    clear b18
    refine hK.out _ _ (KC.out _ BA18.out) (fun hHeld => ?_)
    clear hK K
    (try simp only [Act.put, List.setIfInBounds_toArray, List.set_cons_zero, List.set_cons_succ])
    refine wpAnyH_switch (S2 := (fun w' => (convert 24 9 (.slice (some ⟨w17.heap.size, 0, none⟩) 1 1)).run Tryz.prog w' = .ok (.string ST) w' ∧ w'.cell? ⟨w.heap.size, 0, none⟩ = some (.int .u8 T) ∧ w'.cell? ⟨w.heap.size, 1, none⟩ = some (.string nm) ∧ w'.cell? ⟨w.heap.size, 2, none⟩ = some (.string pf) ∧ w'.cell? ⟨w.heap.size, 3, none⟩ = some (.string lk) ∧ w'.cell? ⟨w.heap.size, 4, none⟩ = some (.int .i64 md) ∧ w'.cell? ⟨w.heap.size, 5, none⟩ = some (.int .i64 sz))) (fun _ h => h.2) ?_
    have hHeld : ((fun w' => (convert 24 9 (.slice (some ⟨w17.heap.size, 0, none⟩) 1 1)).run Tryz.prog w' = .ok (.string ST) w' ∧ w'.cell? ⟨w.heap.size, 0, none⟩ = some (.int .u8 T) ∧ w'.cell? ⟨w.heap.size, 1, none⟩ = some (.string nm) ∧ w'.cell? ⟨w.heap.size, 2, none⟩ = some (.string pf) ∧ w'.cell? ⟨w.heap.size, 3, none⟩ = some (.string lk) ∧ w'.cell? ⟨w.heap.size, 4, none⟩ = some (.int .i64 md) ∧ w'.cell? ⟨w.heap.size, 5, none⟩ = some (.int .i64 sz))) w18 := KD.out _ (Below.refl _ _)
    refine wpAnyH_take (i := 21) (oi := { dst := some 34, op := Go.Op.convert 24 9 (Go.Operand.tmp 33), type := 9, pos := "ref.go:69", after := #[{ on := 20, ground := Go.Ground.data }], guard := none }) (v := ?_) rfl (by kernel_rfl) (by kernel_rfl) (by kernel_rfl) (fun _ _ _ h => h) (Or.inl ⟨by rfl, ?_⟩) (by assumption) ?_
    rotate_left 1
    focus ((intro wS hSw; (try dsimp only at hSw); go_simp) <;> (try with_reducible rfl))
    simp only [Act.put, List.setIfInBounds_toArray, List.set_cons_zero, List.set_cons_succ]
    refine wpAnyH_ready (rs := [5]) (by kernel_rfl) (by simp) ?_
    refine AllReadyH.cons (o := { dst := some 18, op := Go.Op.call { callee := Go.Callee.value (Go.Operand.func 67), args := #[Go.Operand.tmp 17, Go.Operand.const (Go.Value.int Go.IntKind.i64 8)], argTypes := #[2, 3] }, type := 9, pos := "ref.go:69", after := #[{ on := 4, ground := Go.Ground.data }, { on := 2, ground := Go.Ground.chain }], guard := none }) rfl (fun K hK => ?_) AllReadyH.nil
    go_simp
    refine (N2.out w18).mono ?_; rintro e w19 ⟨rfl, b⟩
    have BA19 := Lib.hid (BA18.out.trans (b.mono BA18.out.size))
    have BX19 := Lib.hid b
    clear b
    go_wp2_with fail
    refine hK.out _ _ (KD.out _ BX19.out) (fun hHeld => ?_)
    clear hK K
    (try simp only [Act.put, List.setIfInBounds_toArray, List.set_cons_zero, List.set_cons_succ])
    refine wpAnyH_take (i := 6) (oi := { dst := some 19, op := Go.Op.binOp Go.BinOp.add 9 (Go.Operand.tmp 15) (Go.Operand.tmp 18) 9, type := 9, pos := "ref.go:69", after := #[{ on := 2, ground := Go.Ground.data }, { on := 5, ground := Go.Ground.data }], guard := none }) (v := ?_) rfl (by kernel_rfl) (by kernel_rfl) (by kernel_rfl) (fun _ _ _ h => h) (Or.inl ⟨by rfl, ?_⟩) (by assumption) ?_
    rotate_left 1
    focus ((intro wS hSw; (try dsimp only at hSw); go_simp) <;> (try with_reducible rfl))
    simp only [Act.put, List.setIfInBounds_toArray, List.set_cons_zero, List.set_cons_succ]
    refine wpAnyH_ready (rs := [7]) (by kernel_rfl) (by simp) ?_
    refine AllReadyH.cons (o := { dst := some 20, op := Go.Op.call { callee := Go.Callee.value (Go.Operand.func 67), args := #[Go.Operand.const (Go.Value.int Go.IntKind.i64 0), Go.Operand.const (Go.Value.int Go.IntKind.i64 8)], argTypes := #[2, 3] }, type := 9, pos := "ref.go:69", after := #[{ on := 5, ground := Go.Ground.chain }], guard := none }) rfl (fun K hK => ?_) AllReadyH.nil
    go_simp
    refine (N8.out w19).mono ?_; rintro e w20 ⟨rfl, b⟩
    have BA20 := Lib.hid (BA19.out.trans (b.mono BA19.out.size))
    have BX20 := Lib.hid (BX19.out.trans (b.mono BX19.out.size))
    clear b
    go_wp2_with fail
    refine hK.out _ _ (KD.out _ BX20.out) (fun hHeld => ?_)
    clear hK K
    (try simp only [Act.put, List.setIfInBounds_toArray, List.set_cons_zero, List.set_cons_succ])
    refine wpAnyH_take (i := 8) (oi := { dst := some 21, op := Go.Op.binOp Go.BinOp.add 9 (Go.Operand.tmp 19) (Go.Operand.tmp 20) 9, type := 9, pos := "ref.go:69", after := #[{ on := 6, ground := Go.Ground.data }, { on := 7, ground := Go.Ground.data }], guard := none }) (v := ?_) rfl (by kernel_rfl) (by kernel_rfl) (by kernel_rfl) (fun _ _ _ h => h) (Or.inl ⟨by rfl, ?_⟩) (by assumption) ?_
    rotate_left 1
    focus ((intro wS hSw; (try dsimp only at hSw); go_simp) <;> (try with_reducible rfl))
    simp only [Act.put, List.setIfInBounds_toArray, List.set_cons_zero, List.set_cons_succ]
    refine wpAnyH_ready (rs := [9]) (by kernel_rfl) (by simp) ?_
    refine AllReadyH.cons (o := { dst := some 22, op := Go.Op.call { callee := Go.Callee.value (Go.Operand.func 67), args := #[Go.Operand.const (Go.Value.int Go.IntKind.i64 0), Go.Operand.const (Go.Value.int Go.IntKind.i64 8)], argTypes := #[2, 3] }, type := 9, pos := "ref.go:69", after := #[{ on := 7, ground := Go.Ground.chain }], guard := none }) rfl (fun K hK => ?_) AllReadyH.nil
    go_simp
    refine (N8.out w20).mono ?_; rintro e w21 ⟨rfl, b⟩
    have BA21 := Lib.hid (BA20.out.trans (b.mono BA20.out.size))
    have BX21 := Lib.hid (BX20.out.trans (b.mono BX20.out.size))
    clear b
    go_wp2_with fail
    refine hK.out _ _ (KD.out _ BX21.out) (fun hHeld => ?_)
    clear hK K
    (try simp only [Act.put, List.setIfInBounds_toArray, List.set_cons_zero, List.set_cons_succ])
    refine wpAnyH_take (i := 10) (oi := { dst := some 23, op := Go.Op.binOp Go.BinOp.add 9 (Go.Operand.tmp 21) (Go.Operand.tmp 22) 9, type := 9, pos := "ref.go:69", after := #[{ on := 8, ground := Go.Ground.data }, { on := 9, ground := Go.Ground.data }], guard := none }) (v := ?_) rfl (by kernel_rfl) (by kernel_rfl) (by kernel_rfl) (fun _ _ _ h => h) (Or.inl ⟨by rfl, ?_⟩) (by assumption) ?_
    rotate_left 1
    focus ((intro wS hSw; (try dsimp only at hSw); go_simp) <;> (try with_reducible rfl))
    simp only [Act.put, List.setIfInBounds_toArray, List.set_cons_zero, List.set_cons_succ]
    refine wpAnyH_ready (rs := [13]) (by kernel_rfl) (by simp) ?_
    refine AllReadyH.cons (o := { dst := some 26, op := Go.Op.call { callee := Go.Callee.value (Go.Operand.func 67), args := #[Go.Operand.tmp 25, Go.Operand.const (Go.Value.int Go.IntKind.i64 12)], argTypes := #[2, 3] }, type := 9, pos := "ref.go:69", after := #[{ on := 12, ground := Go.Ground.data }, { on := 9, ground := Go.Ground.chain }], guard := none }) rfl (fun K hK => ?_) AllReadyH.nil
    go_simp
    refine (N3.out w21).mono ?_; rintro e w22 ⟨rfl, b⟩
    have BA22 := Lib.hid (BA21.out.trans (b.mono BA21.out.size))
    have BX22 := Lib.hid (BX21.out.trans (b.mono BX21.out.size))
    clear b
    go_wp2_with fail
    refine hK.out _ _ (KD.out _ BX22.out) (fun hHeld => ?_)
    clear hK K
    (try simp only [Act.put, List.setIfInBounds_toArray, List.set_cons_zero, List.set_cons_succ])
    refine wpAnyH_take (i := 14) (oi := { dst := some 27, op := Go.Op.binOp Go.BinOp.add 9 (Go.Operand.tmp 23) (Go.Operand.tmp 26) 9, type := 9, pos := "ref.go:69", after := #[{ on := 10, ground := Go.Ground.data }, { on := 13, ground := Go.Ground.data }], guard := none }) (v := ?_) rfl (by kernel_rfl) (by kernel_rfl) (by kernel_rfl) (fun _ _ _ h => h) (Or.inl ⟨by rfl, ?_⟩) (by assumption) ?_
    rotate_left 1
    focus ((intro wS hSw; (try dsimp only at hSw); go_simp) <;> (try with_reducible rfl))
    simp only [Act.put, List.setIfInBounds_toArray, List.set_cons_zero, List.set_cons_succ]
    refine wpAnyH_ready (rs := [15]) (by kernel_rfl) (by simp) ?_
    refine AllReadyH.cons (o := { dst := some 28, op := Go.Op.call { callee := Go.Callee.value (Go.Operand.func 67), args := #[Go.Operand.const (Go.Value.int Go.IntKind.i64 0), Go.Operand.const (Go.Value.int Go.IntKind.i64 12)], argTypes := #[2, 3] }, type := 9, pos := "ref.go:69", after := #[{ on := 13, ground := Go.Ground.chain }], guard := none }) rfl (fun K hK => ?_) AllReadyH.nil
    go_simp
    refine (N12.out w22).mono ?_; rintro e w23 ⟨rfl, b⟩
    have BA23 := Lib.hid (BA22.out.trans (b.mono BA22.out.size))
    have BX23 := Lib.hid (BX22.out.trans (b.mono BX22.out.size))
    clear b
    go_wp2_with fail
    refine hK.out _ _ (KD.out _ BX23.out) (fun hHeld => ?_)
    clear hK K
    (try simp only [Act.put, List.setIfInBounds_toArray, List.set_cons_zero, List.set_cons_succ])
    refine wpAnyH_take (i := 16) (oi := { dst := some 29, op := Go.Op.binOp Go.BinOp.add 9 (Go.Operand.tmp 27) (Go.Operand.tmp 28) 9, type := 9, pos := "ref.go:69", after := #[{ on := 14, ground := Go.Ground.data }, { on := 15, ground := Go.Ground.data }], guard := none }) (v := ?_) rfl (by kernel_rfl) (by kernel_rfl) (by kernel_rfl) (fun _ _ _ h => h) (Or.inl ⟨by rfl, ?_⟩) (by assumption) ?_
    rotate_left 1
    focus ((intro wS hSw; (try dsimp only at hSw); go_simp) <;> (try with_reducible rfl))
    simp only [Act.put, List.setIfInBounds_toArray, List.set_cons_zero, List.set_cons_succ]
    refine wpAnyH_take (i := 17) (oi := { dst := some 30, op := Go.Op.binOp Go.BinOp.add 9 (Go.Operand.tmp 29) (Go.Operand.const (Go.Value.string { data := #[32, 32, 32, 32, 32, 32, 32, 32] })) 9, type := 9, pos := "ref.go:69", after := #[{ on := 16, ground := Go.Ground.data }], guard := none }) (v := ?_) rfl (by kernel_rfl) (by kernel_rfl) (by kernel_rfl) (fun _ _ _ h => h) (Or.inl ⟨by rfl, ?_⟩) (by assumption) ?_
    rotate_left 1
    focus ((intro wS hSw; (try dsimp only at hSw); go_simp) <;> (try with_reducible rfl))
    simp only [Act.put, List.setIfInBounds_toArray, List.set_cons_zero, List.set_cons_succ]
    refine wpAnyH_take (i := 22) (oi := { dst := some 35, op := Go.Op.binOp Go.BinOp.add 9 (Go.Operand.tmp 30) (Go.Operand.tmp 34) 9, type := 9, pos := "ref.go:69", after := #[{ on := 17, ground := Go.Ground.data }, { on := 21, ground := Go.Ground.data }], guard := none }) (v := ?_) rfl (by kernel_rfl) (by kernel_rfl) (by kernel_rfl) (fun _ _ _ h => h) (Or.inl ⟨by rfl, ?_⟩) (by assumption) ?_
    rotate_left 1
    focus ((intro wS hSw; (try dsimp only at hSw); go_simp) <;> (try with_reducible rfl))
    simp only [Act.put, List.setIfInBounds_toArray, List.set_cons_zero, List.set_cons_succ]
    refine wpAnyH_ready (rs := [25]) (by kernel_rfl) (by simp) ?_
    refine AllReadyH.cons (o := { dst := some 38, op := Go.Op.call { callee := Go.Callee.value (Go.Operand.func 66), args := #[Go.Operand.tmp 37, Go.Operand.const (Go.Value.int Go.IntKind.i64 100)], argTypes := #[9, 3] }, type := 9, pos := "ref.go:69", after := #[{ on := 24, ground := Go.Ground.data }, { on := 15, ground := Go.Ground.chain }], guard := none }) rfl (fun K hK => ?_) AllReadyH.nil
    go_simp
    refine (N4.out w23).mono ?_; rintro e w24 ⟨rfl, b⟩
    have BA24 := Lib.hid (BA23.out.trans (b.mono BA23.out.size))
    have BX24 := Lib.hid (BX23.out.trans (b.mono BX23.out.size))
    clear b
    go_wp2_with fail
    refine hK.out _ _ (KD.out _ BX24.out) (fun hHeld => ?_)
    clear hK K
    (try simp only [Act.put, List.setIfInBounds_toArray, List.set_cons_zero, List.set_cons_succ])
    refine wpAnyH_take (i := 26) (oi := { dst := some 39, op := Go.Op.binOp Go.BinOp.add 9 (Go.Operand.tmp 35) (Go.Operand.tmp 38) 9, type := 9, pos := "ref.go:69", after := #[{ on := 22, ground := Go.Ground.data }, { on := 25, ground := Go.Ground.data }], guard := none }) (v := ?_) rfl (by kernel_rfl) (by kernel_rfl) (by kernel_rfl) (fun _ _ _ h => h) (Or.inl ⟨by rfl, ?_⟩) (by assumption) ?_
    rotate_left 1
    focus ((intro wS hSw; (try dsimp only at hSw); go_simp) <;> (try with_reducible rfl))
    simp only [Act.put, List.setIfInBounds_toArray, List.set_cons_zero, List.set_cons_succ]
    refine wpAnyH_take (i := 27) (oi := { dst := some 40, op := Go.Op.binOp Go.BinOp.add 9 (Go.Operand.tmp 39) (Go.Operand.const (Go.Value.string { data := #[117, 115, 116, 97, 114, 0, 48, 48] })) 9, type := 9, pos := "ref.go:69", after := #[{ on := 26, ground := Go.Ground.data }], guard := none }) (v := ?_) rfl (by kernel_rfl) (by kernel_rfl) (by kernel_rfl) (fun _ _ _ h => h) (Or.inl ⟨by rfl, ?_⟩) (by assumption) ?_
    rotate_left 1
    focus ((intro wS hSw; (try dsimp only at hSw); go_simp) <;> (try with_reducible rfl))
    simp only [Act.put, List.setIfInBounds_toArray, List.set_cons_zero, List.set_cons_succ]
    refine wpAnyH_ready (rs := [28]) (by kernel_rfl) (by simp) ?_
    refine AllReadyH.cons (o := { dst := some 41, op := Go.Op.call { callee := Go.Callee.value (Go.Operand.func 66), args := #[Go.Operand.const (Go.Value.string { data := #[] }), Go.Operand.const (Go.Value.int Go.IntKind.i64 32)], argTypes := #[9, 3] }, type := 9, pos := "ref.go:69", after := #[{ on := 25, ground := Go.Ground.chain }], guard := none }) rfl (fun K hK => ?_) AllReadyH.nil
    go_simp
    refine (N32.out w24).mono ?_; rintro e w25 ⟨rfl, b⟩
    have BA25 := Lib.hid (BA24.out.trans (b.mono BA24.out.size))
    have BX25 := Lib.hid (BX24.out.trans (b.mono BX24.out.size))
    clear b
    go_wp2_with fail
    refine hK.out _ _ (KD.out _ BX25.out) (fun hHeld => ?_)
    clear hK K
    (try simp only [Act.put, List.setIfInBounds_toArray, List.set_cons_zero, List.set_cons_succ])
    refine wpAnyH_take (i := 29) (oi := { dst := some 42, op := Go.Op.binOp Go.BinOp.add 9 (Go.Operand.tmp 40) (Go.Operand.tmp 41) 9, type := 9, pos := "ref.go:69", after := #[{ on := 27, ground := Go.Ground.data }, { on := 28, ground := Go.Ground.data }], guard := none }) (v := ?_) rfl (by kernel_rfl) (by kernel_rfl) (by kernel_rfl) (fun _ _ _ h => h) (Or.inl ⟨by rfl, ?_⟩) (by assumption) ?_
    rotate_left 1
    focus ((intro wS hSw; (try dsimp only at hSw); go_simp) <;> (try with_reducible rfl))
    simp only [Act.put, List.setIfInBounds_toArray, List.set_cons_zero, List.set_cons_succ]
    refine wpAnyH_ready (rs := [30]) (by kernel_rfl) (by simp) ?_
    refine AllReadyH.cons (o := { dst := some 43, op := Go.Op.call { callee := Go.Callee.value (Go.Operand.func 66), args := #[Go.Operand.const (Go.Value.string { data := #[] }), Go.Operand.const (Go.Value.int Go.IntKind.i64 32)], argTypes := #[9, 3] }, type := 9, pos := "ref.go:69", after := #[{ on := 28, ground := Go.Ground.chain }], guard := none }) rfl (fun K hK => ?_) AllReadyH.nil
    go_simp
    refine (N32.out w25).mono ?_; rintro e w26 ⟨rfl, b⟩
    have BA26 := Lib.hid (BA25.out.trans (b.mono BA25.out.size))
    have BX26 := Lib.hid (BX25.out.trans (b.mono BX25.out.size))
    clear b
    go_wp2_with fail
    refine hK.out _ _ (KD.out _ BX26.out) (fun hHeld => ?_)
    clear hK K
    (try simp only [Act.put, List.setIfInBounds_toArray, List.set_cons_zero, List.set_cons_succ])
    refine wpAnyH_take (i := 31) (oi := { dst := some 44, op := Go.Op.binOp Go.BinOp.add 9 (Go.Operand.tmp 42) (Go.Operand.tmp 43) 9, type := 9, pos := "ref.go:69", after := #[{ on := 29, ground := Go.Ground.data }, { on := 30, ground := Go.Ground.data }], guard := none }) (v := ?_) rfl (by kernel_rfl) (by kernel_rfl) (by kernel_rfl) (fun _ _ _ h => h) (Or.inl ⟨by rfl, ?_⟩) (by assumption) ?_
    rotate_left 1
    focus ((intro wS hSw; (try dsimp only at hSw); go_simp) <;> (try with_reducible rfl))
    simp only [Act.put, List.setIfInBounds_toArray, List.set_cons_zero, List.set_cons_succ]
    refine wpAnyH_ready (rs := [32]) (by kernel_rfl) (by simp) ?_
    refine AllReadyH.cons (o := { dst := some 45, op := Go.Op.call { callee := Go.Callee.value (Go.Operand.func 67), args := #[Go.Operand.const (Go.Value.int Go.IntKind.i64 0), Go.Operand.const (Go.Value.int Go.IntKind.i64 8)], argTypes := #[2, 3] }, type := 9, pos := "ref.go:69", after := #[{ on := 30, ground := Go.Ground.chain }], guard := none }) rfl (fun K hK => ?_) AllReadyH.nil
    go_simp
    refine (N8.out w26).mono ?_; rintro e w27 ⟨rfl, b⟩
    have BA27 := Lib.hid (BA26.out.trans (b.mono BA26.out.size))
    have BX27 := Lib.hid (BX26.out.trans (b.mono BX26.out.size))
    clear b
    go_wp2_with fail
    refine hK.out _ _ (KD.out _ BX27.out) (fun hHeld => ?_)
    clear hK K
    (try simp only [Act.put, List.setIfInBounds_toArray, List.set_cons_zero, List.set_cons_succ])
    refine wpAnyH_take (i := 33) (oi := { dst := some 46, op := Go.Op.binOp Go.BinOp.add 9 (Go.Operand.tmp 44) (Go.Operand.tmp 45) 9, type := 9, pos := "ref.go:69", after := #[{ on := 31, ground := Go.Ground.data }, { on := 32, ground := Go.Ground.data }], guard := none }) (v := ?_) rfl (by kernel_rfl) (by kernel_rfl) (by kernel_rfl) (fun _ _ _ h => h) (Or.inl ⟨by rfl, ?_⟩) (by assumption) ?_
    rotate_left 1
    focus ((intro wS hSw; (try dsimp only at hSw); go_simp) <;> (try with_reducible rfl))
    simp only [Act.put, List.setIfInBounds_toArray, List.set_cons_zero, List.set_cons_succ]
    refine wpAnyH_ready (rs := [34]) (by kernel_rfl) (by simp) ?_
    refine AllReadyH.cons (o := { dst := some 47, op := Go.Op.call { callee := Go.Callee.value (Go.Operand.func 67), args := #[Go.Operand.const (Go.Value.int Go.IntKind.i64 0), Go.Operand.const (Go.Value.int Go.IntKind.i64 8)], argTypes := #[2, 3] }, type := 9, pos := "ref.go:69", after := #[{ on := 32, ground := Go.Ground.chain }], guard := none }) rfl (fun K hK => ?_) AllReadyH.nil
    go_simp
    refine (N8.out w27).mono ?_; rintro e w28 ⟨rfl, b⟩
    have BA28 := Lib.hid (BA27.out.trans (b.mono BA27.out.size))
    have BX28 := Lib.hid (BX27.out.trans (b.mono BX27.out.size))
    clear b
    go_wp2_with fail
    refine hK.out _ _ (KD.out _ BX28.out) (fun hHeld => ?_)
    clear hK K
    (try simp only [Act.put, List.setIfInBounds_toArray, List.set_cons_zero, List.set_cons_succ])
    refine wpAnyH_take (i := 35) (oi := { dst := some 48, op := Go.Op.binOp Go.BinOp.add 9 (Go.Operand.tmp 46) (Go.Operand.tmp 47) 9, type := 9, pos := "ref.go:69", after := #[{ on := 33, ground := Go.Ground.data }, { on := 34, ground := Go.Ground.data }], guard := none }) (v := ?_) rfl (by kernel_rfl) (by kernel_rfl) (by kernel_rfl) (fun _ _ _ h => h) (Or.inl ⟨by rfl, ?_⟩) (by assumption) ?_
    rotate_left 1
    focus ((intro wS hSw; (try dsimp only at hSw); go_simp) <;> (try with_reducible rfl))
    simp only [Act.put, List.setIfInBounds_toArray, List.set_cons_zero, List.set_cons_succ]
    refine wpAnyH_ready (rs := [38]) (by kernel_rfl) (by simp) ?_
    refine AllReadyH.cons (o := { dst := some 51, op := Go.Op.call { callee := Go.Callee.value (Go.Operand.func 66), args := #[Go.Operand.tmp 50, Go.Operand.const (Go.Value.int Go.IntKind.i64 155)], argTypes := #[9, 3] }, type := 9, pos := "ref.go:69", after := #[{ on := 37, ground := Go.Ground.data }, { on := 34, ground := Go.Ground.chain }], guard := none }) rfl (fun K hK => ?_) AllReadyH.nil
    go_simp
    refine (N5.out w28).mono ?_; rintro e w29 ⟨rfl, b⟩
    have BA29 := Lib.hid (BA28.out.trans (b.mono BA28.out.size))
    have BX29 := Lib.hid (BX28.out.trans (b.mono BX28.out.size))
    clear b
    go_wp2_with fail
    refine hK.out _ _ (KD.out _ BX29.out) (fun hHeld => ?_)
    clear hK K
    (try simp only [Act.put, List.setIfInBounds_toArray, List.set_cons_zero, List.set_cons_succ])
    refine wpAnyH_take (i := 39) (oi := { dst := some 52, op := Go.Op.binOp Go.BinOp.add 9 (Go.Operand.tmp 48) (Go.Operand.tmp 51) 9, type := 9, pos := "ref.go:69", after := #[{ on := 35, ground := Go.Ground.data }, { on := 38, ground := Go.Ground.data }], guard := none }) (v := ?_) rfl (by kernel_rfl) (by kernel_rfl) (by kernel_rfl) (fun _ _ _ h => h) (Or.inl ⟨by rfl, ?_⟩) (by assumption) ?_
    rotate_left 1
    focus ((intro wS hSw; (try dsimp only at hSw); go_simp) <;> (try with_reducible rfl))
    simp only [Act.put, List.setIfInBounds_toArray, List.set_cons_zero, List.set_cons_succ]
    refine wpAnyH_ready (rs := [40]) (by kernel_rfl) (by simp) ?_
    refine AllReadyH.cons (o := { dst := some 53, op := Go.Op.call { callee := Go.Callee.value (Go.Operand.func 66), args := #[Go.Operand.const (Go.Value.string { data := #[] }), Go.Operand.const (Go.Value.int Go.IntKind.i64 12)], argTypes := #[9, 3] }, type := 9, pos := "ref.go:69", after := #[{ on := 38, ground := Go.Ground.chain }], guard := none }) rfl (fun K hK => ?_) AllReadyH.nil
    go_simp
    refine (NX.out w29).mono ?_; rintro e w30 ⟨rfl, b⟩
    have BA30 := Lib.hid (BA29.out.trans (b.mono BA29.out.size))
    have BX30 := Lib.hid (BX29.out.trans (b.mono BX29.out.size))
    clear b
    go_wp2_with fail
    refine hK.out _ _ (KD.out _ BX30.out) (fun hHeld => ?_)
    clear hK K
    (try simp only [Act.put, List.setIfInBounds_toArray, List.set_cons_zero, List.set_cons_succ])
    refine wpAnyH_take (i := 41) (oi := { dst := some 54, op := Go.Op.binOp Go.BinOp.add 9 (Go.Operand.tmp 52) (Go.Operand.tmp 53) 9, type := 9, pos := "ref.go:69", after := #[{ on := 39, ground := Go.Ground.data }, { on := 40, ground := Go.Ground.data }], guard := none }) (v := ?_) rfl (by kernel_rfl) (by kernel_rfl) (by kernel_rfl) (fun _ _ _ h => h) (Or.inl ⟨by rfl, ?_⟩) (by assumption) ?_
    rotate_left 1
    focus ((intro wS hSw; (try dsimp only at hSw); go_simp) <;> (try with_reducible rfl))
    simp only [Act.put, List.setIfInBounds_toArray, List.set_cons_zero, List.set_cons_succ]
    refine wpAnyH_take (i := 42) (oi := { dst := some 5, op := Go.Op.assign (Go.Operand.tmp 54), type := 9, pos := "ref.go:69", after := #[{ on := 41, ground := Go.Ground.data }, { on := 40, ground := Go.Ground.chain }, { on := 0, ground := Go.Ground.phase }, { on := 1, ground := Go.Ground.phase }, { on := 2, ground := Go.Ground.phase }, { on := 3, ground := Go.Ground.phase }, { on := 4, ground := Go.Ground.phase }, { on := 5, ground := Go.Ground.phase }, { on := 6, ground := Go.Ground.phase }, { on := 7, ground := Go.Ground.phase }, { on := 8, ground := Go.Ground.phase }, { on := 9, ground := Go.Ground.phase }, { on := 10, ground := Go.Ground.phase }, { on := 11, ground := Go.Ground.phase }, { on := 12, ground := Go.Ground.phase }, { on := 13, ground := Go.Ground.phase }, { on := 14, ground := Go.Ground.phase }, { on := 15, ground := Go.Ground.phase }, { on := 16, ground := Go.Ground.phase }, { on := 17, ground := Go.Ground.phase }, { on := 18, ground := Go.Ground.phase }, { on := 19, ground := Go.Ground.phase }, { on := 20, ground := Go.Ground.phase }, { on := 21, ground := Go.Ground.phase }, { on := 22, ground := Go.Ground.phase }, { on := 23, ground := Go.Ground.phase }, { on := 24, ground := Go.Ground.phase }, { on := 25, ground := Go.Ground.phase }, { on := 26, ground := Go.Ground.phase }, { on := 27, ground := Go.Ground.phase }, { on := 28, ground := Go.Ground.phase }, { on := 29, ground := Go.Ground.phase }, { on := 30, ground := Go.Ground.phase }, { on := 31, ground := Go.Ground.phase }, { on := 32, ground := Go.Ground.phase }, { on := 33, ground := Go.Ground.phase }, { on := 34, ground := Go.Ground.phase }, { on := 35, ground := Go.Ground.phase }, { on := 36, ground := Go.Ground.phase }, { on := 37, ground := Go.Ground.phase }, { on := 38, ground := Go.Ground.phase }, { on := 39, ground := Go.Ground.phase }, { on := 40, ground := Go.Ground.phase }, { on := 41, ground := Go.Ground.phase }], guard := none }) (v := ?_) rfl (by kernel_rfl) (by kernel_rfl) (by kernel_rfl) (fun _ _ _ h => h) (Or.inl ⟨by rfl, ?_⟩) (by assumption) ?_
    rotate_left 1
    focus ((intro wS hSw; (try dsimp only at hSw); go_simp) <;> (try with_reducible rfl))
    simp only [Act.put, List.setIfInBounds_toArray, List.set_cons_zero, List.set_cons_succ]
    refine wpAnyH_done (by kernel_rfl) ?_ _
    obtain ⟨S9, hS9⟩ := named (((((((((((((((s1 ++ o1) ++ o8) ++ o8) ++ o3) ++ o12) ++ { data := #[32, 32, 32, 32, 32, 32, 32, 32] }) ++ ST) ++ s4) ++ { data := #[117, 115, 116, 97, 114, 0, 48, 48] }) ++ x32) ++ x32) ++ o8) ++ o8) ++ s5) ++ xx)
    rw [← hS9.out]
    have hz : numsOf S9 = rawH T nm pf lk md sz := hS9.out ▸ HBIG.out
    have hsz : S9.size = 512 := by rw [← numsOf_length, hz]; exact HRL.out
    obtain ⟨c9, w9, hrun, hrow, hbel, hlt⟩ := run_bytes_of (P := Tryz.prog) w30 Tryz.underlying9 Tryz.underlying24 Tryz.underlying5 S9
    rw [hsz] at hrun
    rw [hz] at hrow
    have hcap : Hid (512 ≤ c9) := CAP.out _ _ _ _ hsz hrun
    have B9 := Lib.hid (BA30.out.trans (hbel.mono BA30.out.size)); have R9 := Lib.hid (BytesIn.of_row hrow hlt)
    clear hbel hrow hlt
    go_wp2_with fail
    refine (Chk.rseal_ok _ c9 _ w9 HRL.out R9.out hcap.out).mono ?_; rintro e w10 ⟨b10, c10, rfl, hr10, hl10, hb10⟩
    have B10 := Lib.hid (B9.out.trans (hb10.mono B9.out.size)); have R10 := Lib.hid hr10; have L10 := Lib.hid hl10
    clear hr10 hl10 hb10
    go_wp2_with fail
    go_ret2
    exact ⟨b10, c10, rfl, R10.out, L10.out, B2.out.trans (B10.out.mono B2.out.size)⟩
  go_simp
  refine (N2.out w17).mono ?_; rintro e w31 ⟨rfl, b⟩
  have BA31 := Lib.hid (BA17.out.trans (b.mono BA17.out.size))
  clear b
  go_wp2_with fail
  refine hK.out _ _ (KC.out _ BA31.out) (fun hHeld => ?_)
  clear hK K
  (try simp only [Act.put, List.setIfInBounds_toArray, List.set_cons_zero, List.set_cons_succ])
  refine wpAnyH_take (i := 6) (oi := { dst := some 19, op := Go.Op.binOp Go.BinOp.add 9 (Go.Operand.tmp 15) (Go.Operand.tmp 18) 9, type := 9, pos := "ref.go:69", after := #[{ on := 2, ground := Go.Ground.data }, { on := 5, ground := Go.Ground.data }], guard := none }) (v := ?_) rfl (by kernel_rfl) (by kernel_rfl) (by kernel_rfl) (fun _ _ _ h => h) (Or.inl ⟨by rfl, ?_⟩) (by assumption) ?_
  rotate_left 1
  focus ((intro wS hSw; (try dsimp only at hSw); go_simp) <;> (try with_reducible rfl))
  simp only [Act.put, List.setIfInBounds_toArray, List.set_cons_zero, List.set_cons_succ]
  refine wpAnyH_ready (rs := [7, 20]) (by kernel_rfl) (by simp) ?_
  refine AllReadyH.cons (o := { dst := some 20, op := Go.Op.call { callee := Go.Callee.value (Go.Operand.func 67), args := #[Go.Operand.const (Go.Value.int Go.IntKind.i64 0), Go.Operand.const (Go.Value.int Go.IntKind.i64 8)], argTypes := #[2, 3] }, type := 9, pos := "ref.go:69", after := #[{ on := 5, ground := Go.Ground.chain }], guard := none }) rfl (fun K hK => ?_) ?_
  rotate_left 1
  · refine AllReadyH.cons (o := { dst := some 33, op := Go.Op.buildSlice 24 1 #[(0, Go.Operand.tmp 32)], type := 24, pos := "ref.go:69", after := #[{ on := 19, ground := Go.Ground.data }], guard := none }) rfl (fun K hK => ?_) AllReadyH.nil
    go_simp
    obtain ⟨w32, hw32⟩ := named (w31.alloc (.cells #[.int .u8 T] 5 (0, 0)))
    rw [← hw32.out]
    have b32 : Below w31.heap.size w31 w32 := by rw [hw32.out]; exact (Below.refl _ _).alloc (Nat.le_refl _) _
    have BA32 := Lib.hid (BA31.out.trans (b32.mono BA31.out.size))
    have KD : Hid (∀ w', Below w32.heap.size w32 w' → (fun w' => (convert 24 9 (.slice (some ⟨w31.heap.size, 0, none⟩) 1 1)).run Tryz.prog w' = .ok (.string ST) w' ∧ w'.cell? ⟨w.heap.size, 0, none⟩ = some (.int .u8 T) ∧ w'.cell? ⟨w.heap.size, 1, none⟩ = some (.string nm) ∧ w'.cell? ⟨w.heap.size, 2, none⟩ = some (.string pf) ∧ w'.cell? ⟨w.heap.size, 3, none⟩ = some (.string lk) ∧ w'.cell? ⟨w.heap.size, 4, none⟩ = some (.int .i64 md) ∧ w'.cell? ⟨w.heap.size, 5, none⟩ = some (.int .i64 sz)) w') := KDL.out w31 w32 (by rw [hw32.out]) BA32.out
    clear b32
    refine hK.out _ _ (KC.out _ BA32.out) (fun hHeld => ?_)
    clear hK K
    (try simp only [Act.put, List.setIfInBounds_toArray, List.set_cons_zero, List.set_cons_succ])
    refine wpAnyH_switch (S2 := (fun w' => (convert 24 9 (.slice (some ⟨w31.heap.size, 0, none⟩) 1 1)).run Tryz.prog w' = .ok (.string ST) w' ∧ w'.cell? ⟨w.heap.size, 0, none⟩ = some (.int .u8 T) ∧ w'.cell? ⟨w.heap.size, 1, none⟩ = some (.string nm) ∧ w'.cell? ⟨w.heap.size, 2, none⟩ = some (.string pf) ∧ w'.cell? ⟨w.heap.size, 3, none⟩ = some (.string lk) ∧ w'.cell? ⟨w.heap.size, 4, none⟩ = some (.int .i64 md) ∧ w'.cell? ⟨w.heap.size, 5, none⟩ = some (.int .i64 sz))) (fun _ h => h.2) ?_
    have hHeld : ((fun w' => (convert 24 9 (.slice (some ⟨w31.heap.size, 0, none⟩) 1 1)).run Tryz.prog w' = .ok (.string ST) w' ∧ w'.cell? ⟨w.heap.size, 0, none⟩ = some (.int .u8 T) ∧ w'.cell? ⟨w.heap.size, 1, none⟩ = some (.string nm) ∧ w'.cell? ⟨w.heap.size, 2, none⟩ = some (.string pf) ∧ w'.cell? ⟨w.heap.size, 3, none⟩ = some (.string lk) ∧ w'.cell? ⟨w.heap.size, 4, none⟩ = some (.int .i64 md) ∧ w'.cell? ⟨w.heap.size, 5, none⟩ = some (.int .i64 sz))) w32 := KD.out _ (Below.refl _ _)
    refine wpAnyH_take (i := 21) (oi := { dst := some 34, op := Go.Op.convert 24 9 (Go.Operand.tmp 33), type := 9, pos := "ref.go:69", after := #[{ on := 20, ground := Go.Ground.data }], guard := none }) (v := ?_) rfl (by kernel_rfl) (by kernel_rfl) (by kernel_rfl) (fun _ _ _ h => h) (Or.inl ⟨by rfl, ?_⟩) (by assumption) ?_
    rotate_left 1
    focus ((intro wS hSw; (try dsimp only at hSw); go_simp) <;> (try with_reducible rfl))
    simp only [Act.put, List.setIfInBounds_toArray, List.set_cons_zero, List.set_cons_succ]
    refine wpAnyH_ready (rs := [7]) (by kernel_rfl) (by simp) ?_
    refine AllReadyH.cons (o := { dst := some 20, op := Go.Op.call { callee := Go.Callee.value (Go.Operand.func 67), args := #[Go.Operand.const (Go.Value.int Go.IntKind.i64 0), Go.Operand.const (Go.Value.int Go.IntKind.i64 8)], argTypes := #[2, 3] }, type := 9, pos := "ref.go:69", after := #[{ on := 5, ground := Go.Ground.chain }], guard := none }) rfl (fun K hK => ?_) AllReadyH.nil
    go_simp
    refine (N8.out w32).mono ?_; rintro e w33 ⟨rfl, b⟩
    have BA33 := Lib.hid (BA32.out.trans (b.mono BA32.out.size))
    have BX33 := Lib.hid b
    clear b
    go_wp2_with fail
    refine hK.out _ _ (KD.out _ BX33.out) (fun hHeld => ?_)
    clear hK K
    (try simp only [Act.put, List.setIfInBounds_toArray, List.set_cons_zero, List.set_cons_succ])
    refine wpAnyH_take (i := 8) (oi := { dst := some 21, op := Go.Op.binOp Go.BinOp.add 9 (Go.Operand.tmp 19) (Go.Operand.tmp 20) 9, type := 9, pos := "ref.go:69", after := #[{ on := 6, ground := Go.Ground.data }, { on := 7, ground := Go.Ground.data }], guard := none }) (v := ?_) rfl (by kernel_rfl) (by kernel_rfl) (by kernel_rfl) (fun _ _ _ h => h) (Or.inl ⟨by rfl, ?_⟩) (by assumption) ?_
    rotate_left 1
    focus ((intro wS hSw; (try dsimp only at hSw); go_simp) <;> (try with_reducible rfl))
    simp only [Act.put, List.setIfInBounds_toArray, List.set_cons_zero, List.set_cons_succ]
    refine wpAnyH_ready (rs := [9]) (by kernel_rfl) (by simp) ?_
    refine AllReadyH.cons (o := { dst := some 22, op := Go.Op.call { callee := Go.Callee.value (Go.Operand.func 67), args := #[Go.Operand.const (Go.Value.int Go.IntKind.i64 0), Go.Operand.const (Go.Value.int Go.IntKind.i64 8)], argTypes := #[2, 3] }, type := 9, pos := "ref.go:69", after := #[{ on := 7, ground := Go.Ground.chain }], guard := none }) rfl (fun K hK => ?_) AllReadyH.nil
    go_simp
    refine (N8.out w33).mono ?_; rintro e w34 ⟨rfl, b⟩
    have BA34 := Lib.hid (BA33.out.trans (b.mono BA33.out.size))
    have BX34 := Lib.hid (BX33.out.trans (b.mono BX33.out.size))
    clear b
    go_wp2_with fail
    refine hK.out _ _ (KD.out _ BX34.out) (fun hHeld => ?_)
    clear hK K
    (try simp only [Act.put, List.setIfInBounds_toArray, List.set_cons_zero, List.set_cons_succ])
    refine wpAnyH_take (i := 10) (oi := { dst := some 23, op := Go.Op.binOp Go.BinOp.add 9 (Go.Operand.tmp 21) (Go.Operand.tmp 22) 9, type := 9, pos := "ref.go:69", after := #[{ on := 8, ground := Go.Ground.data }, { on := 9, ground := Go.Ground.data }], guard := none }) (v := ?_) rfl (by kernel_rfl) (by kernel_rfl) (by kernel_rfl) (fun _ _ _ h => h) (Or.inl ⟨by rfl, ?_⟩) (by assumption) ?_
    rotate_left 1
    focus ((intro wS hSw; (try dsimp only at hSw); go_simp) <;> (try with_reducible rfl))
    simp only [Act.put, List.setIfInBounds_toArray, List.set_cons_zero, List.set_cons_succ]
    refine wpAnyH_ready (rs := [13]) (by kernel_rfl) (by simp) ?_
    refine AllReadyH.cons (o := { dst := some 26, op := Go.Op.call { callee := Go.Callee.value (Go.Operand.func 67), args := #[Go.Operand.tmp 25, Go.Operand.const (Go.Value.int Go.IntKind.i64 12)], argTypes := #[2, 3] }, type := 9, pos := "ref.go:69", after := #[{ on := 12, ground := Go.Ground.data }, { on := 9, ground := Go.Ground.chain }], guard := none }) rfl (fun K hK => ?_) AllReadyH.nil
    go_simp
    refine (N3.out w34).mono ?_; rintro e w35 ⟨rfl, b⟩
    have BA35 := Lib.hid (BA34.out.trans (b.mono BA34.out.size))
    have BX35 := Lib.hid (BX34.out.trans (b.mono BX34.out.size))
    clear b
    go_wp2_with fail
    refine hK.out _ _ (KD.out _ BX35.out) (fun hHeld => ?_)
    clear hK K
    (try simp only [Act.put, List.setIfInBounds_toArray, List.set_cons_zero, List.set_cons_succ])
    refine wpAnyH_take (i := 14) (oi := { dst := some 27, op := Go.Op.binOp Go.BinOp.add 9 (Go.Operand.tmp 23) (Go.Operand.tmp 26) 9, type := 9, pos := "ref.go:69", after := #[{ on := 10, ground := Go.Ground.data }, { on := 13, ground := Go.Ground.data }], guard := none }) (v := ?_) rfl (by kernel_rfl) (by kernel_rfl) (by kernel_rfl) (fun _ _ _ h => h) (Or.inl ⟨by rfl, ?_⟩) (by assumption) ?_
    rotate_left 1
    focus ((intro wS hSw; (try dsimp only at hSw); go_simp) <;> (try with_reducible rfl))
    simp only [Act.put, List.setIfInBounds_toArray, List.set_cons_zero, List.set_cons_succ]
    refine wpAnyH_ready (rs := [15]) (by kernel_rfl) (by simp) ?_
    refine AllReadyH.cons (o := { dst := some 28, op := Go.Op.call { callee := Go.Callee.value (Go.Operand.func 67), args := #[Go.Operand.const (Go.Value.int Go.IntKind.i64 0), Go.Operand.const (Go.Value.int Go.IntKind.i64 12)], argTypes := #[2, 3] }, type := 9, pos := "ref.go:69", after := #[{ on := 13, ground := Go.Ground.chain }], guard := none }) rfl (fun K hK => ?_) AllReadyH.nil
    go_simp
    refine (N12.out w35).mono ?_; rintro e w36 ⟨rfl, b⟩
    have BA36 := Lib.hid (BA35.out.trans (b.mono BA35.out.size))
    have BX36 := Lib.hid (BX35.out.trans (b.mono BX35.out.size))
    clear b
    go_wp2_with fail
    refine hK.out _ _ (KD.out _ BX36.out) (fun hHeld => ?_)
    clear hK K
    (try simp only [Act.put, List.setIfInBounds_toArray, List.set_cons_zero, List.set_cons_succ])
    refine wpAnyH_take (i := 16) (oi := { dst := some 29, op := Go.Op.binOp Go.BinOp.add 9 (Go.Operand.tmp 27) (Go.Operand.tmp 28) 9, type := 9, pos := "ref.go:69", after := #[{ on := 14, ground := Go.Ground.data }, { on := 15, ground := Go.Ground.data }], guard := none }) (v := ?_) rfl (by kernel_rfl) (by kernel_rfl) (by kernel_rfl) (fun _ _ _ h => h) (Or.inl ⟨by rfl, ?_⟩) (by assumption) ?_
    rotate_left 1
    focus ((intro wS hSw; (try dsimp only at hSw); go_simp) <;> (try with_reducible rfl))
    simp only [Act.put, List.setIfInBounds_toArray, List.set_cons_zero, List.set_cons_succ]
    refine wpAnyH_take (i := 17) (oi := { dst := some 30, op := Go.Op.binOp Go.BinOp.add 9 (Go.Operand.tmp 29) (Go.Operand.const (Go.Value.string { data := #[32, 32, 32, 32, 32, 32, 32, 32] })) 9, type := 9, pos := "ref.go:69", after := #[{ on := 16, ground := Go.Ground.data }], guard := none }) (v := ?_) rfl (by kernel_rfl) (by kernel_rfl) (by kernel_rfl) (fun _ _ _ h => h) (Or.inl ⟨by rfl, ?_⟩) (by assumption) ?_
    rotate_left 1
    focus ((intro wS hSw; (try dsimp only at hSw); go_simp) <;> (try with_reducible rfl))
    simp only [Act.put, List.setIfInBounds_toArray, List.set_cons_zero, List.set_cons_succ]
    refine wpAnyH_take (i := 22) (oi := { dst := some 35, op := Go.Op.binOp Go.BinOp.add 9 (Go.Operand.tmp 30) (Go.Operand.tmp 34) 9, type := 9, pos := "ref.go:69", after := #[{ on := 17, ground := Go.Ground.data }, { on := 21, ground := Go.Ground.data }], guard := none }) (v := ?_) rfl (by kernel_rfl) (by kernel_rfl) (by kernel_rfl) (fun _ _ _ h => h) (Or.inl ⟨by rfl, ?_⟩) (by assumption) ?_
    rotate_left 1
    focus ((intro wS hSw; (try dsimp only at hSw); go_simp) <;> (try with_reducible rfl))
    simp only [Act.put, List.setIfInBounds_toArray, List.set_cons_zero, List.set_cons_succ]
    refine wpAnyH_ready (rs := [25]) (by kernel_rfl) (by simp) ?_
    refine AllReadyH.cons (o := { dst := some 38, op := Go.Op.call { callee := Go.Callee.value (Go.Operand.func 66), args := #[Go.Operand.tmp 37, Go.Operand.const (Go.Value.int Go.IntKind.i64 100)], argTypes := #[9, 3] }, type := 9, pos := "ref.go:69", after := #[{ on := 24, ground := Go.Ground.data }, { on := 15, ground := Go.Ground.chain }], guard := none }) rfl (fun K hK => ?_) AllReadyH.nil
    go_simp
    refine (N4.out w36).mono ?_; rintro e w37 ⟨rfl, b⟩
    have BA37 := Lib.hid (BA36.out.trans (b.mono BA36.out.size))
    have BX37 := Lib.hid (BX36.out.trans (b.mono BX36.out.size))
    clear b
    go_wp2_with fail
    refine hK.out _ _ (KD.out _ BX37.out) (fun hHeld => ?_)
    clear hK K
    (try simp only [Act.put, List.setIfInBounds_toArray, List.set_cons_zero, List.set_cons_succ])
    refine wpAnyH_take (i := 26) (oi := { dst := some 39, op := Go.Op.binOp Go.BinOp.add 9 (Go.Operand.tmp 35) (Go.Operand.tmp 38) 9, type := 9, pos := "ref.go:69", after := #[{ on := 22, ground := Go.Ground.data }, { on := 25, ground := Go.Ground.data }], guard := none }) (v := ?_) rfl (by kernel_rfl) (by kernel_rfl) (by kernel_rfl) (fun _ _ _ h => h) (Or.inl ⟨by rfl, ?_⟩) (by assumption) ?_
    rotate_left 1
    focus ((intro wS hSw; (try dsimp only at hSw); go_simp) <;> (try with_reducible rfl))
    simp only [Act.put, List.setIfInBounds_toArray, List.set_cons_zero, List.set_cons_succ]
    refine wpAnyH_take (i := 27) (oi := { dst := some 40, op := Go.Op.binOp Go.BinOp.add 9 (Go.Operand.tmp 39) (Go.Operand.const (Go.Value.string { data := #[117, 115, 116, 97, 114, 0, 48, 48] })) 9, type := 9, pos := "ref.go:69", after := #[{ on := 26, ground := Go.Ground.data }], guard := none }) (v := ?_) rfl (by kernel_rfl) (by kernel_rfl) (by kernel_rfl) (fun _ _ _ h => h) (Or.inl ⟨by rfl, ?_⟩) (by assumption) ?_
    rotate_left 1
    focus ((intro wS hSw; (try dsimp only at hSw); go_simp) <;> (try with_reducible rfl))
    simp only [Act.put, List.setIfInBounds_toArray, List.set_cons_zero, List.set_cons_succ]
    refine wpAnyH_ready (rs := [28]) (by kernel_rfl) (by simp) ?_
    refine AllReadyH.cons (o := { dst := some 41, op := Go.Op.call { callee := Go.Callee.value (Go.Operand.func 66), args := #[Go.Operand.const (Go.Value.string { data := #[] }), Go.Operand.const (Go.Value.int Go.IntKind.i64 32)], argTypes := #[9, 3] }, type := 9, pos := "ref.go:69", after := #[{ on := 25, ground := Go.Ground.chain }], guard := none }) rfl (fun K hK => ?_) AllReadyH.nil
    go_simp
    refine (N32.out w37).mono ?_; rintro e w38 ⟨rfl, b⟩
    have BA38 := Lib.hid (BA37.out.trans (b.mono BA37.out.size))
    have BX38 := Lib.hid (BX37.out.trans (b.mono BX37.out.size))
    clear b
    go_wp2_with fail
    refine hK.out _ _ (KD.out _ BX38.out) (fun hHeld => ?_)
    clear hK K
    (try simp only [Act.put, List.setIfInBounds_toArray, List.set_cons_zero, List.set_cons_succ])
    refine wpAnyH_take (i := 29) (oi := { dst := some 42, op := Go.Op.binOp Go.BinOp.add 9 (Go.Operand.tmp 40) (Go.Operand.tmp 41) 9, type := 9, pos := "ref.go:69", after := #[{ on := 27, ground := Go.Ground.data }, { on := 28, ground := Go.Ground.data }], guard := none }) (v := ?_) rfl (by kernel_rfl) (by kernel_rfl) (by kernel_rfl) (fun _ _ _ h => h) (Or.inl ⟨by rfl, ?_⟩) (by assumption) ?_
    rotate_left 1
    focus ((intro wS hSw; (try dsimp only at hSw); go_simp) <;> (try with_reducible rfl))
    simp only [Act.put, List.setIfInBounds_toArray, List.set_cons_zero, List.set_cons_succ]
    refine wpAnyH_ready (rs := [30]) (by kernel_rfl) (by simp) ?_
    refine AllReadyH.cons (o := { dst := some 43, op := Go.Op.call { callee := Go.Callee.value (Go.Operand.func 66), args := #[Go.Operand.const (Go.Value.string { data := #[] }), Go.Operand.const (Go.Value.int Go.IntKind.i64 32)], argTypes := #[9, 3] }, type := 9, pos := "ref.go:69", after := #[{ on := 28, ground := Go.Ground.chain }], guard := none }) rfl (fun K hK => ?_) AllReadyH.nil
    go_simp
    refine (N32.out w38).mono ?_; rintro e w39 ⟨rfl, b⟩
    have BA39 := Lib.hid (BA38.out.trans (b.mono BA38.out.size))
    have BX39 := Lib.hid (BX38.out.trans (b.mono BX38.out.size))
    clear b
    go_wp2_with fail
    refine hK.out _ _ (KD.out _ BX39.out) (fun hHeld => ?_)
    clear hK K
    (try simp only [Act.put, List.setIfInBounds_toArray, List.set_cons_zero, List.set_cons_succ])
    refine wpAnyH_take (i := 31) (oi := { dst := some 44, op := Go.Op.binOp Go.BinOp.add 9 (Go.Operand.tmp 42) (Go.Operand.tmp 43) 9, type := 9, pos := "ref.go:69", after := #[{ on := 29, ground := Go.Ground.data }, { on := 30, ground := Go.Ground.data }], guard := none }) (v := ?_) rfl (by kernel_rfl) (by kernel_rfl) (by kernel_rfl) (fun _ _ _ h => h) (Or.inl ⟨by rfl, ?_⟩) (by assumption) ?_
    rotate_left 1
    focus ((intro wS hSw; (try dsimp only at hSw); go_simp) <;> (try with_reducible rfl))
    simp only [Act.put, List.setIfInBounds_toArray, List.set_cons_zero, List.set_cons_succ]
    refine wpAnyH_ready (rs := [32]) (by kernel_rfl) (by simp) ?_
    refine AllReadyH.cons (o := { dst := some 45, op := Go.Op.call { callee := Go.Callee.value (Go.Operand.func 67), args := #[Go.Operand.const (Go.Value.int Go.IntKind.i64 0), Go.Operand.const (Go.Value.int Go.IntKind.i64 8)], argTypes := #[2, 3] }, type := 9, pos := "ref.go:69", after := #[{ on := 30, ground := Go.Ground.chain }], guard := none }) rfl (fun K hK => ?_) AllReadyH.nil
    go_simp
    refine (N8.out w39).mono ?_; rintro e w40 ⟨rfl, b⟩
    have BA40 := Lib.hid (BA39.out.trans (b.mono BA39.out.size))
    have BX40 := Lib.hid (BX39.out.trans (b.mono BX39.out.size))
    clear b
    go_wp2_with fail
    refine hK.out _ _ (KD.out _ BX40.out) (fun hHeld => ?_)
    clear hK K
    (try simp only [Act.put, List.setIfInBounds_toArray, List.set_cons_zero, List.set_cons_succ])
    refine wpAnyH_take (i := 33) (oi := { dst := some 46, op := Go.Op.binOp Go.BinOp.add 9 (Go.Operand.tmp 44) (Go.Operand.tmp 45) 9, type := 9, pos := "ref.go:69", after := #[{ on := 31, ground := Go.Ground.data }, { on := 32, ground := Go.Ground.data }], guard := none }) (v := ?_) rfl (by kernel_rfl) (by kernel_rfl) (by kernel_rfl) (fun _ _ _ h => h) (Or.inl ⟨by rfl, ?_⟩) (by assumption) ?_
    rotate_left 1
    focus ((intro wS hSw; (try dsimp only at hSw); go_simp) <;> (try with_reducible rfl))
    simp only [Act.put, List.setIfInBounds_toArray, List.set_cons_zero, List.set_cons_succ]
    refine wpAnyH_ready (rs := [34]) (by kernel_rfl) (by simp) ?_
    refine AllReadyH.cons (o := { dst := some 47, op := Go.Op.call { callee := Go.Callee.value (Go.Operand.func 67), args := #[Go.Operand.const (Go.Value.int Go.IntKind.i64 0), Go.Operand.const (Go.Value.int Go.IntKind.i64 8)], argTypes := #[2, 3] }, type := 9, pos := "ref.go:69", after := #[{ on := 32, ground := Go.Ground.chain }], guard := none }) rfl (fun K hK => ?_) AllReadyH.nil
    go_simp
    refine (N8.out w40).mono ?_; rintro e w41 ⟨rfl, b⟩
    have BA41 := Lib.hid (BA40.out.trans (b.mono BA40.out.size))
    have BX41 := Lib.hid (BX40.out.trans (b.mono BX40.out.size))
    clear b
    go_wp2_with fail
    refine hK.out _ _ (KD.out _ BX41.out) (fun hHeld => ?_)
    clear hK K
    (try simp only [Act.put, List.setIfInBounds_toArray, List.set_cons_zero, List.set_cons_succ])
    refine wpAnyH_take (i := 35) (oi := { dst := some 48, op := Go.Op.binOp Go.BinOp.add 9 (Go.Operand.tmp 46) (Go.Operand.tmp 47) 9, type := 9, pos := "ref.go:69", after := #[{ on := 33, ground := Go.Ground.data }, { on := 34, ground := Go.Ground.data }], guard := none }) (v := ?_) rfl (by kernel_rfl) (by kernel_rfl) (by kernel_rfl) (fun _ _ _ h => h) (Or.inl ⟨by rfl, ?_⟩) (by assumption) ?_
    rotate_left 1
    focus ((intro wS hSw; (try dsimp only at hSw); go_simp) <;> (try with_reducible rfl))
    simp only [Act.put, List.setIfInBounds_toArray, List.set_cons_zero, List.set_cons_succ]
    refine wpAnyH_ready (rs := [38]) (by kernel_rfl) (by simp) ?_
    refine AllReadyH.cons (o := { dst := some 51, op := Go.Op.call { callee := Go.Callee.value (Go.Operand.func 66), args := #[Go.Operand.tmp 50, Go.Operand.const (Go.Value.int Go.IntKind.i64 155)], argTypes := #[9, 3] }, type := 9, pos := "ref.go:69", after := #[{ on := 37, ground := Go.Ground.data }, { on := 34, ground := Go.Ground.chain }], guard := none }) rfl (fun K hK => ?_) AllReadyH.nil
    go_simp
    refine (N5.out w41).mono ?_; rintro e w42 ⟨rfl, b⟩
    have BA42 := Lib.hid (BA41.out.trans (b.mono BA41.out.size))
    have BX42 := Lib.hid (BX41.out.trans (b.mono BX41.out.size))
    clear b
    go_wp2_with fail
    refine hK.out _ _ (KD.out _ BX42.out) (fun hHeld => ?_)
    clear hK K
    (try simp only [Act.put, List.setIfInBounds_toArray, List.set_cons_zero, List.set_cons_succ])
    refine wpAnyH_take (i := 39) (oi := { dst := some 52, op := Go.Op.binOp Go.BinOp.add 9 (Go.Operand.tmp 48) (Go.Operand.tmp 51) 9, type := 9, pos := "ref.go:69", after := #[{ on := 35, ground := Go.Ground.data }, { on := 38, ground := Go.Ground.data }], guard := none }) (v := ?_) rfl (by kernel_rfl) (by kernel_rfl) (by kernel_rfl) (fun _ _ _ h => h) (Or.inl ⟨by rfl, ?_⟩) (by assumption) ?_
    rotate_left 1
    focus ((intro wS hSw; (try dsimp only at hSw); go_simp) <;> (try with_reducible rfl))
    simp only [Act.put, List.setIfInBounds_toArray, List.set_cons_zero, List.set_cons_succ]
    refine wpAnyH_ready (rs := [40]) (by kernel_rfl) (by simp) ?_
    refine AllReadyH.cons (o := { dst := some 53, op := Go.Op.call { callee := Go.Callee.value (Go.Operand.func 66), args := #[Go.Operand.const (Go.Value.string { data := #[] }), Go.Operand.const (Go.Value.int Go.IntKind.i64 12)], argTypes := #[9, 3] }, type := 9, pos := "ref.go:69", after := #[{ on := 38, ground := Go.Ground.chain }], guard := none }) rfl (fun K hK => ?_) AllReadyH.nil
    go_simp
    refine (NX.out w42).mono ?_; rintro e w43 ⟨rfl, b⟩
    have BA43 := Lib.hid (BA42.out.trans (b.mono BA42.out.size))
    have BX43 := Lib.hid (BX42.out.trans (b.mono BX42.out.size))
    clear b
    go_wp2_with fail
    refine hK.out _ _ (KD.out _ BX43.out) (fun hHeld => ?_)
    clear hK K
    (try simp only [Act.put, List.setIfInBounds_toArray, List.set_cons_zero, List.set_cons_succ])
    refine wpAnyH_take (i := 41) (oi := { dst := some 54, op := Go.Op.binOp Go.BinOp.add 9 (Go.Operand.tmp 52) (Go.Operand.tmp 53) 9, type := 9, pos := "ref.go:69", after := #[{ on := 39, ground := Go.Ground.data }, { on := 40, ground := Go.Ground.data }], guard := none }) (v := ?_) rfl (by kernel_rfl) (by kernel_rfl) (by kernel_rfl) (fun _ _ _ h => h) (Or.inl ⟨by rfl, ?_⟩) (by assumption) ?_
    rotate_left 1
    focus ((intro wS hSw; (try dsimp only at hSw); go_simp) <;> (try with_reducible rfl))
    simp only [Act.put, List.setIfInBounds_toArray, List.set_cons_zero, List.set_cons_succ]
    refine wpAnyH_take (i := 42) (oi := { dst := some 5, op := Go.Op.assign (Go.Operand.tmp 54), type := 9, pos := "ref.go:69", after := #[{ on := 41, ground := Go.Ground.data }, { on := 40, ground := Go.Ground.chain }, { on := 0, ground := Go.Ground.phase }, { on := 1, ground := Go.Ground.phase }, { on := 2, ground := Go.Ground.phase }, { on := 3, ground := Go.Ground.phase }, { on := 4, ground := Go.Ground.phase }, { on := 5, ground := Go.Ground.phase }, { on := 6, ground := Go.Ground.phase }, { on := 7, ground := Go.Ground.phase }, { on := 8, ground := Go.Ground.phase }, { on := 9, ground := Go.Ground.phase }, { on := 10, ground := Go.Ground.phase }, { on := 11, ground := Go.Ground.phase }, { on := 12, ground := Go.Ground.phase }, { on := 13, ground := Go.Ground.phase }, { on := 14, ground := Go.Ground.phase }, { on := 15, ground := Go.Ground.phase }, { on := 16, ground := Go.Ground.phase }, { on := 17, ground := Go.Ground.phase }, { on := 18, ground := Go.Ground.phase }, { on := 19, ground := Go.Ground.phase }, { on := 20, ground := Go.Ground.phase }, { on := 21, ground := Go.Ground.phase }, { on := 22, ground := Go.Ground.phase }, { on := 23, ground := Go.Ground.phase }, { on := 24, ground := Go.Ground.phase }, { on := 25, ground := Go.Ground.phase }, { on := 26, ground := Go.Ground.phase }, { on := 27, ground := Go.Ground.phase }, { on := 28, ground := Go.Ground.phase }, { on := 29, ground := Go.Ground.phase }, { on := 30, ground := Go.Ground.phase }, { on := 31, ground := Go.Ground.phase }, { on := 32, ground := Go.Ground.phase }, { on := 33, ground := Go.Ground.phase }, { on := 34, ground := Go.Ground.phase }, { on := 35, ground := Go.Ground.phase }, { on := 36, ground := Go.Ground.phase }, { on := 37, ground := Go.Ground.phase }, { on := 38, ground := Go.Ground.phase }, { on := 39, ground := Go.Ground.phase }, { on := 40, ground := Go.Ground.phase }, { on := 41, ground := Go.Ground.phase }], guard := none }) (v := ?_) rfl (by kernel_rfl) (by kernel_rfl) (by kernel_rfl) (fun _ _ _ h => h) (Or.inl ⟨by rfl, ?_⟩) (by assumption) ?_
    rotate_left 1
    focus ((intro wS hSw; (try dsimp only at hSw); go_simp) <;> (try with_reducible rfl))
    simp only [Act.put, List.setIfInBounds_toArray, List.set_cons_zero, List.set_cons_succ]
    refine wpAnyH_done (by kernel_rfl) ?_ _
    obtain ⟨S9, hS9⟩ := named (((((((((((((((s1 ++ o1) ++ o8) ++ o8) ++ o3) ++ o12) ++ { data := #[32, 32, 32, 32, 32, 32, 32, 32] }) ++ ST) ++ s4) ++ { data := #[117, 115, 116, 97, 114, 0, 48, 48] }) ++ x32) ++ x32) ++ o8) ++ o8) ++ s5) ++ xx)
    rw [← hS9.out]
    have hz : numsOf S9 = rawH T nm pf lk md sz := hS9.out ▸ HBIG.out
    have hsz : S9.size = 512 := by rw [← numsOf_length, hz]; exact HRL.out
    obtain ⟨c9, w9, hrun, hrow, hbel, hlt⟩ := run_bytes_of (P := Tryz.prog) w43 Tryz.underlying9 Tryz.underlying24 Tryz.underlying5 S9
    rw [hsz] at hrun
    rw [hz] at hrow
    have hcap : Hid (512 ≤ c9) := CAP.out _ _ _ _ hsz hrun
    have B9 := Lib.hid (BA43.out.trans (hbel.mono BA43.out.size)); have R9 := Lib.hid (BytesIn.of_row hrow hlt)
    clear hbel hrow hlt
    go_wp2_with fail
    refine (Chk.rseal_ok _ c9 _ w9 HRL.out R9.out hcap.out).mono ?_; rintro e w10 ⟨b10, c10, rfl, hr10, hl10, hb10⟩
    have B10 := Lib.hid (B9.out.trans (hb10.mono B9.out.size)); have R10 := Lib.hid hr10; have L10 := Lib.hid hl10
    clear hr10 hl10 hb10
    go_wp2_with fail
    go_ret2
    exact ⟨b10, c10, rfl, R10.out, L10.out, B2.out.trans (B10.out.mono B2.out.size)⟩
  go_simp
  refine (N8.out w31).mono ?_; rintro e w44 ⟨rfl, b⟩
  have BA44 := Lib.hid (BA31.out.trans (b.mono BA31.out.size))
  clear b
  go_wp2_with fail
  refine hK.out _ _ (KC.out _ BA44.out) (fun hHeld => ?_)
  clear hK K
  (try simp only [Act.put, List.setIfInBounds_toArray, List.set_cons_zero, List.set_cons_succ])
  refine wpAnyH_take (i := 8) (oi := { dst := some 21, op := Go.Op.binOp Go.BinOp.add 9 (Go.Operand.tmp 19) (Go.Operand.tmp 20) 9, type := 9, pos := "ref.go:69", after := #[{ on := 6, ground := Go.Ground.data }, { on := 7, ground := Go.Ground.data }], guard := none }) (v := ?_) rfl (by kernel_rfl) (by kernel_rfl) (by kernel_rfl) (fun _ _ _ h => h) (Or.inl ⟨by rfl, ?_⟩) (by assumption) ?_
  rotate_left 1
  focus ((intro wS hSw; (try dsimp only at hSw); go_simp) <;> (try with_reducible rfl))
  simp only [Act.put, List.setIfInBounds_toArray, List.set_cons_zero, List.set_cons_succ]
  refine wpAnyH_ready (rs := [9, 20]) (by kernel_rfl) (by simp) ?_
  refine AllReadyH.cons (o := { dst := some 22, op := Go.Op.call { callee := Go.Callee.value (Go.Operand.func 67), args := #[Go.Operand.const (Go.Value.int Go.IntKind.i64 0), Go.Operand.const (Go.Value.int Go.IntKind.i64 8)], argTypes := #[2, 3] }, type := 9, pos := "ref.go:69", after := #[{ on := 7, ground := Go.Ground.chain }], guard := none }) rfl (fun K hK => ?_) ?_
  rotate_left 1
  · refine AllReadyH.cons (o := { dst := some 33, op := Go.Op.buildSlice 24 1 #[(0, Go.Operand.tmp 32)], type := 24, pos := "ref.go:69", after := #[{ on := 19, ground := Go.Ground.data }], guard := none }) rfl (fun K hK => ?_) AllReadyH.nil
    go_simp
    obtain ⟨w45, hw45⟩ := named (w44.alloc (.cells #[.int .u8 T] 5 (0, 0)))
    rw [← hw45.out]
    have b45 : Below w44.heap.size w44 w45 := by rw [hw45.out]; exact (Below.refl _ _).alloc (Nat.le_refl _) _
    have BA45 := Lib.hid (BA44.out.trans (b45.mono BA44.out.size))
    have KD : Hid (∀ w', Below w45.heap.size w45 w' → (fun w' => (convert 24 9 (.slice (some ⟨w44.heap.size, 0, none⟩) 1 1)).run Tryz.prog w' = .ok (.string ST) w' ∧ w'.cell? ⟨w.heap.size, 0, none⟩ = some (.int .u8 T) ∧ w'.cell? ⟨w.heap.size, 1, none⟩ = some (.string nm) ∧ w'.cell? ⟨w.heap.size, 2, none⟩ = some (.string pf) ∧ w'.cell? ⟨w.heap.size, 3, none⟩ = some (.string lk) ∧ w'.cell? ⟨w.heap.size, 4, none⟩ = some (.int .i64 md) ∧ w'.cell? ⟨w.heap.size, 5, none⟩ = some (.int .i64 sz)) w') := KDL.out w44 w45 (by rw [hw45.out]) BA45.out
    clear b45
    refine hK.out _ _ (KC.out _ BA45.out) (fun hHeld => ?_)
    clear hK K
    (try simp only [Act.put, List.setIfInBounds_toArray, List.set_cons_zero, List.set_cons_succ])
    refine wpAnyH_switch (S2 := (fun w' => (convert 24 9 (.slice (some ⟨w44.heap.size, 0, none⟩) 1 1)).run Tryz.prog w' = .ok (.string ST) w' ∧ w'.cell? ⟨w.heap.size, 0, none⟩ = some (.int .u8 T) ∧ w'.cell? ⟨w.heap.size, 1, none⟩ = some (.string nm) ∧ w'.cell? ⟨w.heap.size, 2, none⟩ = some (.string pf) ∧ w'.cell? ⟨w.heap.size, 3, none⟩ = some (.string lk) ∧ w'.cell? ⟨w.heap.size, 4, none⟩ = some (.int .i64 md) ∧ w'.cell? ⟨w.heap.size, 5, none⟩ = some (.int .i64 sz))) (fun _ h => h.2) ?_
    have hHeld : ((fun w' => (convert 24 9 (.slice (some ⟨w44.heap.size, 0, none⟩) 1 1)).run Tryz.prog w' = .ok (.string ST) w' ∧ w'.cell? ⟨w.heap.size, 0, none⟩ = some (.int .u8 T) ∧ w'.cell? ⟨w.heap.size, 1, none⟩ = some (.string nm) ∧ w'.cell? ⟨w.heap.size, 2, none⟩ = some (.string pf) ∧ w'.cell? ⟨w.heap.size, 3, none⟩ = some (.string lk) ∧ w'.cell? ⟨w.heap.size, 4, none⟩ = some (.int .i64 md) ∧ w'.cell? ⟨w.heap.size, 5, none⟩ = some (.int .i64 sz))) w45 := KD.out _ (Below.refl _ _)
    refine wpAnyH_take (i := 21) (oi := { dst := some 34, op := Go.Op.convert 24 9 (Go.Operand.tmp 33), type := 9, pos := "ref.go:69", after := #[{ on := 20, ground := Go.Ground.data }], guard := none }) (v := ?_) rfl (by kernel_rfl) (by kernel_rfl) (by kernel_rfl) (fun _ _ _ h => h) (Or.inl ⟨by rfl, ?_⟩) (by assumption) ?_
    rotate_left 1
    focus ((intro wS hSw; (try dsimp only at hSw); go_simp) <;> (try with_reducible rfl))
    simp only [Act.put, List.setIfInBounds_toArray, List.set_cons_zero, List.set_cons_succ]
    refine wpAnyH_ready (rs := [9]) (by kernel_rfl) (by simp) ?_
    refine AllReadyH.cons (o := { dst := some 22, op := Go.Op.call { callee := Go.Callee.value (Go.Operand.func 67), args := #[Go.Operand.const (Go.Value.int Go.IntKind.i64 0), Go.Operand.const (Go.Value.int Go.IntKind.i64 8)], argTypes := #[2, 3] }, type := 9, pos := "ref.go:69", after := #[{ on := 7, ground := Go.Ground.chain }], guard := none }) rfl (fun K hK => ?_) AllReadyH.nil
    go_simp
    refine (N8.out w45).mono ?_; rintro e w46 ⟨rfl, b⟩
    have BA46 := Lib.hid (BA45.out.trans (b.mono BA45.out.size))
    have BX46 := Lib.hid b
    clear b
    go_wp2_with fail
    refine hK.out _ _ (KD.out _ BX46.out) (fun hHeld => ?_)
    clear hK K
    (try simp only [Act.put, List.setIfInBounds_toArray, List.set_cons_zero, List.set_cons_succ])
    refine wpAnyH_take (i := 10) (oi := { dst := some 23, op := Go.Op.binOp Go.BinOp.add 9 (Go.Operand.tmp 21) (Go.Operand.tmp 22) 9, type := 9, pos := "ref.go:69", after := #[{ on := 8, ground := Go.Ground.data }, { on := 9, ground := Go.Ground.data }], guard := none }) (v := ?_) rfl (by kernel_rfl) (by kernel_rfl) (by kernel_rfl) (fun _ _ _ h => h) (Or.inl ⟨by rfl, ?_⟩) (by assumption) ?_
    rotate_left 1
    focus ((intro wS hSw; (try dsimp only at hSw); go_simp) <;> (try with_reducible rfl))
    simp only [Act.put, List.setIfInBounds_toArray, List.set_cons_zero, List.set_cons_succ]
    refine wpAnyH_ready (rs := [13]) (by kernel_rfl) (by simp) ?_
    refine AllReadyH.cons (o := { dst := some 26, op := Go.Op.call { callee := Go.Callee.value (Go.Operand.func 67), args := #[Go.Operand.tmp 25, Go.Operand.const (Go.Value.int Go.IntKind.i64 12)], argTypes := #[2, 3] }, type := 9, pos := "ref.go:69", after := #[{ on := 12, ground := Go.Ground.data }, { on := 9, ground := Go.Ground.chain }], guard := none }) rfl (fun K hK => ?_) AllReadyH.nil
    go_simp
    refine (N3.out w46).mono ?_; rintro e w47 ⟨rfl, b⟩
    have BA47 := Lib.hid (BA46.out.trans (b.mono BA46.out.size))
    have BX47 := Lib.hid (BX46.out.trans (b.mono BX46.out.size))
    clear b
    go_wp2_with fail
    refine hK.out _ _ (KD.out _ BX47.out) (fun hHeld => ?_)
    clear hK K
    (try simp only [Act.put, List.setIfInBounds_toArray, List.set_cons_zero, List.set_cons_succ])
    refine wpAnyH_take (i := 14) (oi := { dst := some 27, op := Go.Op.binOp Go.BinOp.add 9 (Go.Operand.tmp 23) (Go.Operand.tmp 26) 9, type := 9, pos := "ref.go:69", after := #[{ on := 10, ground := Go.Ground.data }, { on := 13, ground := Go.Ground.data }], guard := none }) (v := ?_) rfl (by kernel_rfl) (by kernel_rfl) (by kernel_rfl) (fun _ _ _ h => h) (Or.inl ⟨by rfl, ?_⟩) (by assumption) ?_
    rotate_left 1
    focus ((intro wS hSw; (try dsimp only at hSw); go_simp) <;> (try with_reducible rfl))
    simp only [Act.put, List.setIfInBounds_toArray, List.set_cons_zero, List.set_cons_succ]
    refine wpAnyH_ready (rs := [15]) (by kernel_rfl) (by simp) ?_
    refine AllReadyH.cons (o := { dst := some 28, op := Go.Op.call { callee := Go.Callee.value (Go.Operand.func 67), args := #[Go.Operand.const (Go.Value.int Go.IntKind.i64 0), Go.Operand.const (Go.Value.int Go.IntKind.i64 12)], argTypes := #[2, 3] }, type := 9, pos := "ref.go:69", after := #[{ on := 13, ground := Go.Ground.chain }], guard := none }) rfl (fun K hK => ?_) AllReadyH.nil
    go_simp
    refine (N12.out w47).mono ?_; rintro e w48 ⟨rfl, b⟩
    have BA48 := Lib.hid (BA47.out.trans (b.mono BA47.out.size))
    have BX48 := Lib.hid (BX47.out.trans (b.mono BX47.out.size))
    clear b
    go_wp2_with fail
    refine hK.out _ _ (KD.out _ BX48.out) (fun hHeld => ?_)
    clear hK K
    (try simp only [Act.put, List.setIfInBounds_toArray, List.set_cons_zero, List.set_cons_succ])
    refine wpAnyH_take (i := 16) (oi := { dst := some 29, op := Go.Op.binOp Go.BinOp.add 9 (Go.Operand.tmp 27) (Go.Operand.tmp 28) 9, type := 9, pos := "ref.go:69", after := #[{ on := 14, ground := Go.Ground.data }, { on := 15, ground := Go.Ground.data }], guard := none }) (v := ?_) rfl (by kernel_rfl) (by kernel_rfl) (by kernel_rfl) (fun _ _ _ h => h) (Or.inl ⟨by rfl, ?_⟩) (by assumption) ?_
    rotate_left 1
    focus ((intro wS hSw; (try dsimp only at hSw); go_simp) <;> (try with_reducible rfl))
    simp only [Act.put, List.setIfInBounds_toArray, List.set_cons_zero, List.set_cons_succ]
    refine wpAnyH_take (i := 17) (oi := { dst := some 30, op := Go.Op.binOp Go.BinOp.add 9 (Go.Operand.tmp 29) (Go.Operand.const (Go.Value.string { data := #[32, 32, 32, 32, 32, 32, 32, 32] })) 9, type := 9, pos := "ref.go:69", after := #[{ on := 16, ground := Go.Ground.data }], guard := none }) (v := ?_) rfl (by kernel_rfl) (by kernel_rfl) (by kernel_rfl) (fun _ _ _ h => h) (Or.inl ⟨by rfl, ?_⟩) (by assumption) ?_
    rotate_left 1
    focus ((intro wS hSw; (try dsimp only at hSw); go_simp) <;> (try with_reducible rfl))
    simp only [Act.put, List.setIfInBounds_toArray, List.set_cons_zero, List.set_cons_succ]
    refine wpAnyH_take (i := 22) (oi := { dst := some 35, op := Go.Op.binOp Go.BinOp.add 9 (Go.Operand.tmp 30) (Go.Operand.tmp 34) 9, type := 9, pos := "ref.go:69", after := #[{ on := 17, ground := Go.Ground.data }, { on := 21, ground := Go.Ground.data }], guard := none }) (v := ?_) rfl (by kernel_rfl) (by kernel_rfl) (by kernel_rfl) (fun _ _ _ h => h) (Or.inl ⟨by rfl, ?_⟩) (by assumption) ?_
    rotate_left 1
    focus ((intro wS hSw; (try dsimp only at hSw); go_simp) <;> (try with_reducible rfl))
    simp only [Act.put, List.setIfInBounds_toArray, List.set_cons_zero, List.set_cons_succ]
    refine wpAnyH_ready (rs := [25]) (by kernel_rfl) (by simp) ?_
    refine AllReadyH.cons (o := { dst := some 38, op := Go.Op.call { callee := Go.Callee.value (Go.Operand.func 66), args := #[Go.Operand.tmp 37, Go.Operand.const (Go.Value.int Go.IntKind.i64 100)], argTypes := #[9, 3] }, type := 9, pos := "ref.go:69", after := #[{ on := 24, ground := Go.Ground.data }, { on := 15, ground := Go.Ground.chain }], guard := none }) rfl (fun K hK => ?_) AllReadyH.nil
    go_simp
    refine (N4.out w48).mono ?_; rintro e w49 ⟨rfl, b⟩
    have BA49 := Lib.hid (BA48.out.trans (b.mono BA48.out.size))
    have BX49 := Lib.hid (BX48.out.trans (b.mono BX48.out.size))
    clear b
    go_wp2_with fail
    refine hK.out _ _ (KD.out _ BX49.out) (fun hHeld => ?_)
    clear hK K
    (try simp only [Act.put, List.setIfInBounds_toArray, List.set_cons_zero, List.set_cons_succ])
    refine wpAnyH_take (i := 26) (oi := { dst := some 39, op := Go.Op.binOp Go.BinOp.add 9 (Go.Operand.tmp 35) (Go.Operand.tmp 38) 9, type := 9, pos := "ref.go:69", after := #[{ on := 22, ground := Go.Ground.data }, { on := 25, ground := Go.Ground.data }], guard := none }) (v := ?_) rfl (by kernel_rfl) (by kernel_rfl) (by kernel_rfl) (fun _ _ _ h => h) (Or.inl ⟨by rfl, ?_⟩) (by assumption) ?_
    rotate_left 1
    focus ((intro wS hSw; (try dsimp only at hSw); go_simp) <;> (try with_reducible rfl))
    simp only [Act.put, List.setIfInBounds_toArray, List.set_cons_zero, List.set_cons_succ]
    refine wpAnyH_take (i := 27) (oi := { dst := some 40, op := Go.Op.binOp Go.BinOp.add 9 (Go.Operand.tmp 39) (Go.Operand.const (Go.Value.string { data := #[117, 115, 116, 97, 114, 0, 48, 48] })) 9, type := 9, pos := "ref.go:69", after := #[{ on := 26, ground := Go.Ground.data }], guard := none }) (v := ?_) rfl (by kernel_rfl) (by kernel_rfl) (by kernel_rfl) (fun _ _ _ h => h) (Or.inl ⟨by rfl, ?_⟩) (by assumption) ?_
    rotate_left 1
    focus ((intro wS hSw; (try dsimp only at hSw); go_simp) <;> (try with_reducible rfl))
    simp only [Act.put, List.setIfInBounds_toArray, List.set_cons_zero, List.set_cons_succ]
    refine wpAnyH_ready (rs := [28]) (by kernel_rfl) (by simp) ?_
    refine AllReadyH.cons (o := { dst := some 41, op := Go.Op.call { callee := Go.Callee.value (Go.Operand.func 66), args := #[Go.Operand.const (Go.Value.string { data := #[] }), Go.Operand.const (Go.Value.int Go.IntKind.i64 32)], argTypes := #[9, 3] }, type := 9, pos := "ref.go:69", after := #[{ on := 25, ground := Go.Ground.chain }], guard := none }) rfl (fun K hK => ?_) AllReadyH.nil
    go_simp
    refine (N32.out w49).mono ?_; rintro e w50 ⟨rfl, b⟩
    have BA50 := Lib.hid (BA49.out.trans (b.mono BA49.out.size))
    have BX50 := Lib.hid (BX49.out.trans (b.mono BX49.out.size))
    clear b
    go_wp2_with fail
    refine hK.out _ _ (KD.out _ BX50.out) (fun hHeld => ?_)
    clear hK K
    (try simp only [Act.put, List.setIfInBounds_toArray, List.set_cons_zero, List.set_cons_succ])
    refine wpAnyH_take (i := 29) (oi := { dst := some 42, op := Go.Op.binOp Go.BinOp.add 9 (Go.Operand.tmp 40) (Go.Operand.tmp 41) 9, type := 9, pos := "ref.go:69", after := #[{ on := 27, ground := Go.Ground.data }, { on := 28, ground := Go.Ground.data }], guard := none }) (v := ?_) rfl (by kernel_rfl) (by kernel_rfl) (by kernel_rfl) (fun _ _ _ h => h) (Or.inl ⟨by rfl, ?_⟩) (by assumption) ?_
    rotate_left 1
    focus ((intro wS hSw; (try dsimp only at hSw); go_simp) <;> (try with_reducible rfl))
    simp only [Act.put, List.setIfInBounds_toArray, List.set_cons_zero, List.set_cons_succ]
    refine wpAnyH_ready (rs := [30]) (by kernel_rfl) (by simp) ?_
    refine AllReadyH.cons (o := { dst := some 43, op := Go.Op.call { callee := Go.Callee.value (Go.Operand.func 66), args := #[Go.Operand.const (Go.Value.string { data := #[] }), Go.Operand.const (Go.Value.int Go.IntKind.i64 32)], argTypes := #[9, 3] }, type := 9, pos := "ref.go:69", after := #[{ on := 28, ground := Go.Ground.chain }], guard := none }) rfl (fun K hK => ?_) AllReadyH.nil
    go_simp
    refine (N32.out w50).mono ?_; rintro e w51 ⟨rfl, b⟩
    have BA51 := Lib.hid (BA50.out.trans (b.mono BA50.out.size))
    have BX51 := Lib.hid (BX50.out.trans (b.mono BX50.out.size))
    clear b
    go_wp2_with fail
    refine hK.out _ _ (KD.out _ BX51.out) (fun hHeld => ?_)
    clear hK K
    (try simp only [Act.put, List.setIfInBounds_toArray, List.set_cons_zero, List.set_cons_succ])
    refine wpAnyH_take (i := 31) (oi := { dst := some 44, op := Go.Op.binOp Go.BinOp.add 9 (Go.Operand.tmp 42) (Go.Operand.tmp 43) 9, type := 9, pos := "ref.go:69", after := #[{ on := 29, ground := Go.Ground.data }, { on := 30, ground := Go.Ground.data }], guard := none }) (v := ?_) rfl (by kernel_rfl) (by kernel_rfl) (by kernel_rfl) (fun _ _ _ h => h) (Or.inl ⟨by rfl, ?_⟩) (by assumption) ?_
    rotate_left 1
    focus ((intro wS hSw; (try dsimp only at hSw); go_simp) <;> (try with_reducible rfl))
    simp only [Act.put, List.setIfInBounds_toArray, List.set_cons_zero, List.set_cons_succ]
    refine wpAnyH_ready (rs := [32]) (by kernel_rfl) (by simp) ?_
    refine AllReadyH.cons (o := { dst := some 45, op := Go.Op.call { callee := Go.Callee.value (Go.Operand.func 67), args := #[Go.Operand.const (Go.Value.int Go.IntKind.i64 0), Go.Operand.const (Go.Value.int Go.IntKind.i64 8)], argTypes := #[2, 3] }, type := 9, pos := "ref.go:69", after := #[{ on := 30, ground := Go.Ground.chain }], guard := none }) rfl (fun K hK => ?_) AllReadyH.nil
    go_simp
    refine (N8.out w51).mono ?_; rintro e w52 ⟨rfl, b⟩
    have BA52 := Lib.hid (BA51.out.trans (b.mono BA51.out.size))
    have BX52 := Lib.hid (BX51.out.trans (b.mono BX51.out.size))
    clear b
    go_wp2_with fail
    refine hK.out _ _ (KD.out _ BX52.out) (fun hHeld => ?_)
    clear hK K
    (try simp only [Act.put, List.setIfInBounds_toArray, List.set_cons_zero, List.set_cons_succ])
    refine wpAnyH_take (i := 33) (oi := { dst := some 46, op := Go.Op.binOp Go.BinOp.add 9 (Go.Operand.tmp 44) (Go.Operand.tmp 45) 9, type := 9, pos := "ref.go:69", after := #[{ on := 31, ground := Go.Ground.data }, { on := 32, ground := Go.Ground.data }], guard := none }) (v := ?_) rfl (by kernel_rfl) (by kernel_rfl) (by kernel_rfl) (fun _ _ _ h => h) (Or.inl ⟨by rfl, ?_⟩) (by assumption) ?_
    rotate_left 1
    focus ((intro wS hSw; (try dsimp only at hSw); go_simp) <;> (try with_reducible rfl))
    simp only [Act.put, List.setIfInBounds_toArray, List.set_cons_zero, List.set_cons_succ]
    refine wpAnyH_ready (rs := [34]) (by kernel_rfl) (by simp) ?_
    refine AllReadyH.cons (o := { dst := some 47, op := Go.Op.call { callee := Go.Callee.value (Go.Operand.func 67), args := #[Go.Operand.const (Go.Value.int Go.IntKind.i64 0), Go.Operand.const (Go.Value.int Go.IntKind.i64 8)], argTypes := #[2, 3] }, type := 9, pos := "ref.go:69", after := #[{ on := 32, ground := Go.Ground.chain }], guard := none }) rfl (fun K hK => ?_) AllReadyH.nil
    go_simp
    refine (N8.out w52).mono ?_; rintro e w53 ⟨rfl, b⟩
    have BA53 := Lib.hid (BA52.out.trans (b.mono BA52.out.size))
    have BX53 := Lib.hid (BX52.out.trans (b.mono BX52.out.size))
    clear b
    go_wp2_with fail
    refine hK.out _ _ (KD.out _ BX53.out) (fun hHeld => ?_)
    clear hK K
    (try simp only [Act.put, List.setIfInBounds_toArray, List.set_cons_zero, List.set_cons_succ])
    refine wpAnyH_take (i := 35) (oi := { dst := some 48, op := Go.Op.binOp Go.BinOp.add 9 (Go.Operand.tmp 46) (Go.Operand.tmp 47) 9, type := 9, pos := "ref.go:69", after := #[{ on := 33, ground := Go.Ground.data }, { on := 34, ground := Go.Ground.data }], guard := none }) (v := ?_) rfl (by kernel_rfl) (by kernel_rfl) (by kernel_rfl) (fun _ _ _ h => h) (Or.inl ⟨by rfl, ?_⟩) (by assumption) ?_
    rotate_left 1
    focus ((intro wS hSw; (try dsimp only at hSw); go_simp) <;> (try with_reducible rfl))
    simp only [Act.put, List.setIfInBounds_toArray, List.set_cons_zero, List.set_cons_succ]
    refine wpAnyH_ready (rs := [38]) (by kernel_rfl) (by simp) ?_
    refine AllReadyH.cons (o := { dst := some 51, op := Go.Op.call { callee := Go.Callee.value (Go.Operand.func 66), args := #[Go.Operand.tmp 50, Go.Operand.const (Go.Value.int Go.IntKind.i64 155)], argTypes := #[9, 3] }, type := 9, pos := "ref.go:69", after := #[{ on := 37, ground := Go.Ground.data }, { on := 34, ground := Go.Ground.chain }], guard := none }) rfl (fun K hK => ?_) AllReadyH.nil
    go_simp
    refine (N5.out w53).mono ?_; rintro e w54 ⟨rfl, b⟩
    have BA54 := Lib.hid (BA53.out.trans (b.mono BA53.out.size))
    have BX54 := Lib.hid (BX53.out.trans (b.mono BX53.out.size))
    clear b
    go_wp2_with fail
    refine hK.out _ _ (KD.out _ BX54.out) (fun hHeld => ?_)
    clear hK K
    (try simp only [Act.put, List.setIfInBounds_toArray, List.set_cons_zero, List.set_cons_succ])
    refine wpAnyH_take (i := 39) (oi := { dst := some 52, op := Go.Op.binOp Go.BinOp.add 9 (Go.Operand.tmp 48) (Go.Operand.tmp 51) 9, type := 9, pos := "ref.go:69", after := #[{ on := 35, ground := Go.Ground.data }, { on := 38, ground := Go.Ground.data }], guard := none }) (v := ?_) rfl (by kernel_rfl) (by kernel_rfl) (by kernel_rfl) (fun _ _ _ h => h) (Or.inl ⟨by rfl, ?_⟩) (by assumption) ?_
    rotate_left 1
    focus ((intro wS hSw; (try dsimp only at hSw); go_simp) <;> (try with_reducible rfl))
    simp only [Act.put, List.setIfInBounds_toArray, List.set_cons_zero, List.set_cons_succ]
    refine wpAnyH_ready (rs := [40]) (by kernel_rfl) (by simp) ?_
    refine AllReadyH.cons (o := { dst := some 53, op := Go.Op.call { callee := Go.Callee.value (Go.Operand.func 66), args := #[Go.Operand.const (Go.Value.string { data := #[] }), Go.Operand.const (Go.Value.int Go.IntKind.i64 12)], argTypes := #[9, 3] }, type := 9, pos := "ref.go:69", after := #[{ on := 38, ground := Go.Ground.chain }], guard := none }) rfl (fun K hK => ?_) AllReadyH.nil
    go_simp
    refine (NX.out w54).mono ?_; rintro e w55 ⟨rfl, b⟩
    have BA55 := Lib.hid (BA54.out.trans (b.mono BA54.out.size))
    have BX55 := Lib.hid (BX54.out.trans (b.mono BX54.out.size))
    clear b
    go_wp2_with fail
    refine hK.out _ _ (KD.out _ BX55.out) (fun hHeld => ?_)
    clear hK K
    (try simp only [Act.put, List.setIfInBounds_toArray, List.set_cons_zero, List.set_cons_succ])
    refine wpAnyH_take (i := 41) (oi := { dst := some 54, op := Go.Op.binOp Go.BinOp.add 9 (Go.Operand.tmp 52) (Go.Operand.tmp 53) 9, type := 9, pos := "ref.go:69", after := #[{ on := 39, ground := Go.Ground.data }, { on := 40, ground := Go.Ground.data }], guard := none }) (v := ?_) rfl (by kernel_rfl) (by kernel_rfl) (by kernel_rfl) (fun _ _ _ h => h) (Or.inl ⟨by rfl, ?_⟩) (by assumption) ?_
    rotate_left 1
    focus ((intro wS hSw; (try dsimp only at hSw); go_simp) <;> (try with_reducible rfl))
    simp only [Act.put, List.setIfInBounds_toArray, List.set_cons_zero, List.set_cons_succ]
    refine wpAnyH_take (i := 42) (oi := { dst := some 5, op := Go.Op.assign (Go.Operand.tmp 54), type := 9, pos := "ref.go:69", after := #[{ on := 41, ground := Go.Ground.data }, { on := 40, ground := Go.Ground.chain }, { on := 0, ground := Go.Ground.phase }, { on := 1, ground := Go.Ground.phase }, { on := 2, ground := Go.Ground.phase }, { on := 3, ground := Go.Ground.phase }, { on := 4, ground := Go.Ground.phase }, { on := 5, ground := Go.Ground.phase }, { on := 6, ground := Go.Ground.phase }, { on := 7, ground := Go.Ground.phase }, { on := 8, ground := Go.Ground.phase }, { on := 9, ground := Go.Ground.phase }, { on := 10, ground := Go.Ground.phase }, { on := 11, ground := Go.Ground.phase }, { on := 12, ground := Go.Ground.phase }, { on := 13, ground := Go.Ground.phase }, { on := 14, ground := Go.Ground.phase }, { on := 15, ground := Go.Ground.phase }, { on := 16, ground := Go.Ground.phase }, { on := 17, ground := Go.Ground.phase }, { on := 18, ground := Go.Ground.phase }, { on := 19, ground := Go.Ground.phase }, { on := 20, ground := Go.Ground.phase }, { on := 21, ground := Go.Ground.phase }, { on := 22, ground := Go.Ground.phase }, { on := 23, ground := Go.Ground.phase }, { on := 24, ground := Go.Ground.phase }, { on := 25, ground := Go.Ground.phase }, { on := 26, ground := Go.Ground.phase }, { on := 27, ground := Go.Ground.phase }, { on := 28, ground := Go.Ground.phase }, { on := 29, ground := Go.Ground.phase }, { on := 30, ground := Go.Ground.phase }, { on := 31, ground := Go.Ground.phase }, { on := 32, ground := Go.Ground.phase }, { on := 33, ground := Go.Ground.phase }, { on := 34, ground := Go.Ground.phase }, { on := 35, ground := Go.Ground.phase }, { on := 36, ground := Go.Ground.phase }, { on := 37, ground := Go.Ground.phase }, { on := 38, ground := Go.Ground.phase }, { on := 39, ground := Go.Ground.phase }, { on := 40, ground := Go.Ground.phase }, { on := 41, ground := Go.Ground.phase }], guard := none }) (v := ?_) rfl (by kernel_rfl) (by kernel_rfl) (by kernel_rfl) (fun _ _ _ h => h) (Or.inl ⟨by rfl, ?_⟩) (by assumption) ?_
    rotate_left 1
    focus ((intro wS hSw; (try dsimp only at hSw); go_simp) <;> (try with_reducible rfl))
    simp only [Act.put, List.setIfInBounds_toArray, List.set_cons_zero, List.set_cons_succ]
    refine wpAnyH_done (by kernel_rfl) ?_ _
    obtain ⟨S9, hS9⟩ := named (((((((((((((((s1 ++ o1) ++ o8) ++ o8) ++ o3) ++ o12) ++ { data := #[32, 32, 32, 32, 32, 32, 32, 32] }) ++ ST) ++ s4) ++ { data := #[117, 115, 116, 97, 114, 0, 48, 48] }) ++ x32) ++ x32) ++ o8) ++ o8) ++ s5) ++ xx)
    rw [← hS9.out]
    have hz : numsOf S9 = rawH T nm pf lk md sz := hS9.out ▸ HBIG.out
    have hsz : S9.size = 512 := by rw [← numsOf_length, hz]; exact HRL.out
    obtain ⟨c9, w9, hrun, hrow, hbel, hlt⟩ := run_bytes_of (P := Tryz.prog) w55 Tryz.underlying9 Tryz.underlying24 Tryz.underlying5 S9
    rw [hsz] at hrun
    rw [hz] at hrow
    have hcap : Hid (512 ≤ c9) := CAP.out _ _ _ _ hsz hrun
    have B9 := Lib.hid (BA55.out.trans (hbel.mono BA55.out.size)); have R9 := Lib.hid (BytesIn.of_row hrow hlt)
    clear hbel hrow hlt
    go_wp2_with fail
    refine (Chk.rseal_ok _ c9 _ w9 HRL.out R9.out hcap.out).mono ?_; rintro e w10 ⟨b10, c10, rfl, hr10, hl10, hb10⟩
    have B10 := Lib.hid (B9.out.trans (hb10.mono B9.out.size)); have R10 := Lib.hid hr10; have L10 := Lib.hid hl10
    clear hr10 hl10 hb10
    go_wp2_with fail
    go_ret2
    exact ⟨b10, c10, rfl, R10.out, L10.out, B2.out.trans (B10.out.mono B2.out.size)⟩
  go_simp
  refine (N8.out w44).mono ?_; rintro e w56 ⟨rfl, b⟩
  have BA56 := Lib.hid (BA44.out.trans (b.mono BA44.out.size))
  clear b
  go_wp2_with fail
  refine hK.out _ _ (KC.out _ BA56.out) (fun hHeld => ?_)
  clear hK K
  (try simp only [Act.put, List.setIfInBounds_toArray, List.set_cons_zero, List.set_cons_succ])
  refine wpAnyH_take (i := 10) (oi := { dst := some 23, op := Go.Op.binOp Go.BinOp.add 9 (Go.Operand.tmp 21) (Go.Operand.tmp 22) 9, type := 9, pos := "ref.go:69", after := #[{ on := 8, ground := Go.Ground.data }, { on := 9, ground := Go.Ground.data }], guard := none }) (v := ?_) rfl (by kernel_rfl) (by kernel_rfl) (by kernel_rfl) (fun _ _ _ h => h) (Or.inl ⟨by rfl, ?_⟩) (by assumption) ?_
  rotate_left 1
  focus ((intro wS hSw; (try dsimp only at hSw); go_simp) <;> (try with_reducible rfl))
  simp only [Act.put, List.setIfInBounds_toArray, List.set_cons_zero, List.set_cons_succ]
  refine wpAnyH_ready (rs := [13, 20]) (by kernel_rfl) (by simp) ?_
  refine AllReadyH.cons (o := { dst := some 26, op := Go.Op.call { callee := Go.Callee.value (Go.Operand.func 67), args := #[Go.Operand.tmp 25, Go.Operand.const (Go.Value.int Go.IntKind.i64 12)], argTypes := #[2, 3] }, type := 9, pos := "ref.go:69", after := #[{ on := 12, ground := Go.Ground.data }, { on := 9, ground := Go.Ground.chain }], guard := none }) rfl (fun K hK => ?_) ?_
  rotate_left 1
  · refine AllReadyH.cons (o := { dst := some 33, op := Go.Op.buildSlice 24 1 #[(0, Go.Operand.tmp 32)], type := 24, pos := "ref.go:69", after := #[{ on := 19, ground := Go.Ground.data }], guard := none }) rfl (fun K hK => ?_) AllReadyH.nil
    go_simp
    obtain ⟨w57, hw57⟩ := named (w56.alloc (.cells #[.int .u8 T] 5 (0, 0)))
    rw [← hw57.out]
    have b57 : Below w56.heap.size w56 w57 := by rw [hw57.out]; exact (Below.refl _ _).alloc (Nat.le_refl _) _
    have BA57 := Lib.hid (BA56.out.trans (b57.mono BA56.out.size))
    have KD : Hid (∀ w', Below w57.heap.size w57 w' → (fun w' => (convert 24 9 (.slice (some ⟨w56.heap.size, 0, none⟩) 1 1)).run Tryz.prog w' = .ok (.string ST) w' ∧ w'.cell? ⟨w.heap.size, 0, none⟩ = some (.int .u8 T) ∧ w'.cell? ⟨w.heap.size, 1, none⟩ = some (.string nm) ∧ w'.cell? ⟨w.heap.size, 2, none⟩ = some (.string pf) ∧ w'.cell? ⟨w.heap.size, 3, none⟩ = some (.string lk) ∧ w'.cell? ⟨w.heap.size, 4, none⟩ = some (.int .i64 md) ∧ w'.cell? ⟨w.heap.size, 5, none⟩ = some (.int .i64 sz)) w') := KDL.out w56 w57 (by rw [hw57.out]) BA57.out
    clear b57
    refine hK.out _ _ (KC.out _ BA57.out) (fun hHeld => ?_)
    clear hK K
    (try simp only [Act.put, List.setIfInBounds_toArray, List.set_cons_zero, List.set_cons_succ])
    refine wpAnyH_switch (S2 := (fun w' => (convert 24 9 (.slice (some ⟨w56.heap.size, 0, none⟩) 1 1)).run Tryz.prog w' = .ok (.string ST) w' ∧ w'.cell? ⟨w.heap.size, 0, none⟩ = some (.int .u8 T) ∧ w'.cell? ⟨w.heap.size, 1, none⟩ = some (.string nm) ∧ w'.cell? ⟨w.heap.size, 2, none⟩ = some (.string pf) ∧ w'.cell? ⟨w.heap.size, 3, none⟩ = some (.string lk) ∧ w'.cell? ⟨w.heap.size, 4, none⟩ = some (.int .i64 md) ∧ w'.cell? ⟨w.heap.size, 5, none⟩ = some (.int .i64 sz))) (fun _ h => h.2) ?_
    have hHeld : ((fun w' => (convert 24 9 (.slice (some ⟨w56.heap.size, 0, none⟩) 1 1)).run Tryz.prog w' = .ok (.string ST) w' ∧ w'.cell? ⟨w.heap.size, 0, none⟩ = some (.int .u8 T) ∧ w'.cell? ⟨w.heap.size, 1, none⟩ = some (.string nm) ∧ w'.cell? ⟨w.heap.size, 2, none⟩ = some (.string pf) ∧ w'.cell? ⟨w.heap.size, 3, none⟩ = some (.string lk) ∧ w'.cell? ⟨w.heap.size, 4, none⟩ = some (.int .i64 md) ∧ w'.cell? ⟨w.heap.size, 5, none⟩ = some (.int .i64 sz))) w57 := KD.out _ (Below.refl _ _)
    refine wpAnyH_take (i := 21) (oi := { dst := some 34, op := Go.Op.convert 24 9 (Go.Operand.tmp 33), type := 9, pos := "ref.go:69", after := #[{ on := 20, ground := Go.Ground.data }], guard := none }) (v := ?_) rfl (by kernel_rfl) (by kernel_rfl) (by kernel_rfl) (fun _ _ _ h => h) (Or.inl ⟨by rfl, ?_⟩) (by assumption) ?_
    rotate_left 1
    focus ((intro wS hSw; (try dsimp only at hSw); go_simp) <;> (try with_reducible rfl))
    simp only [Act.put, List.setIfInBounds_toArray, List.set_cons_zero, List.set_cons_succ]
    refine wpAnyH_ready (rs := [13]) (by kernel_rfl) (by simp) ?_
    refine AllReadyH.cons (o := { dst := some 26, op := Go.Op.call { callee := Go.Callee.value (Go.Operand.func 67), args := #[Go.Operand.tmp 25, Go.Operand.const (Go.Value.int Go.IntKind.i64 12)], argTypes := #[2, 3] }, type := 9, pos := "ref.go:69", after := #[{ on := 12, ground := Go.Ground.data }, { on := 9, ground := Go.Ground.chain }], guard := none }) rfl (fun K hK => ?_) AllReadyH.nil
    go_simp
    refine (N3.out w57).mono ?_; rintro e w58 ⟨rfl, b⟩
    have BA58 := Lib.hid (BA57.out.trans (b.mono BA57.out.size))
    have BX58 := Lib.hid b
    clear b
    go_wp2_with fail
    refine hK.out _ _ (KD.out _ BX58.out) (fun hHeld => ?_)
    clear hK K
    (try simp only [Act.put, List.setIfInBounds_toArray, List.set_cons_zero, List.set_cons_succ])
    refine wpAnyH_take (i := 14) (oi := { dst := some 27, op := Go.Op.binOp Go.BinOp.add 9 (Go.Operand.tmp 23) (Go.Operand.tmp 26) 9, type := 9, pos := "ref.go:69", after := #[{ on := 10, ground := Go.Ground.data }, { on := 13, ground := Go.Ground.data }], guard := none }) (v := ?_) rfl (by kernel_rfl) (by kernel_rfl) (by kernel_rfl) (fun _ _ _ h => h) (Or.inl ⟨by rfl, ?_⟩) (by assumption) ?_
    rotate_left 1
    focus ((intro wS hSw; (try dsimp only at hSw); go_simp) <;> (try with_reducible rfl))
    simp only [Act.put, List.setIfInBounds_toArray, List.set_cons_zero, List.set_cons_succ]
    refine wpAnyH_ready (rs := [15]) (by kernel_rfl) (by simp) ?_
    refine AllReadyH.cons (o := { dst := some 28, op := Go.Op.call { callee := Go.Callee.value (Go.Operand.func 67), args := #[Go.Operand.const (Go.Value.int Go.IntKind.i64 0), Go.Operand.const (Go.Value.int Go.IntKind.i64 12)], argTypes := #[2, 3] }, type := 9, pos := "ref.go:69", after := #[{ on := 13, ground := Go.Ground.chain }], guard := none }) rfl (fun K hK => ?_) AllReadyH.nil
    go_simp
    refine (N12.out w58).mono ?_; rintro e w59 ⟨rfl, b⟩
    have BA59 := Lib.hid (BA58.out.trans (b.mono BA58.out.size))
    have BX59 := Lib.hid (BX58.out.trans (b.mono BX58.out.size))
    clear b
    go_wp2_with fail
    refine hK.out _ _ (KD.out _ BX59.out) (fun hHeld => ?_)
    clear hK K
    (try simp only [Act.put, List.setIfInBounds_toArray, List.set_cons_zero, List.set_cons_succ])
    refine wpAnyH_take (i := 16) (oi := { dst := some 29, op := Go.Op.binOp Go.BinOp.add 9 (Go.Operand.tmp 27) (Go.Operand.tmp 28) 9, type := 9, pos := "ref.go:69", after := #[{ on := 14, ground := Go.Ground.data }, { on := 15, ground := Go.Ground.data }], guard := none }) (v := ?_) rfl (by kernel_rfl) (by kernel_rfl) (by kernel_rfl) (fun _ _ _ h => h) (Or.inl ⟨by rfl, ?_⟩) (by assumption) ?_
    rotate_left 1
    focus ((intro wS hSw; (try dsimp only at hSw); go_simp) <;> (try with_reducible rfl))
    simp only [Act.put, List.setIfInBounds_toArray, List.set_cons_zero, List.set_cons_succ]
    refine wpAnyH_take (i := 17) (oi := { dst := some 30, op := Go.Op.binOp Go.BinOp.add 9 (Go.Operand.tmp 29) (Go.Operand.const (Go.Value.string { data := #[32, 32, 32, 32, 32, 32, 32, 32] })) 9, type := 9, pos := "ref.go:69", after := #[{ on := 16, ground := Go.Ground.data }], guard := none }) (v := ?_) rfl (by kernel_rfl) (by kernel_rfl) (by kernel_rfl) (fun _ _ _ h => h) (Or.inl ⟨by rfl, ?_⟩) (by assumption) ?_
    rotate_left 1
    focus ((intro wS hSw; (try dsimp only at hSw); go_simp) <;> (try with_reducible rfl))
    simp only [Act.put, List.setIfInBounds_toArray, List.set_cons_zero, List.set_cons_succ]
    refine wpAnyH_take (i := 22) (oi := { dst := some 35, op := Go.Op.binOp Go.BinOp.add 9 (Go.Operand.tmp 30) (Go.Operand.tmp 34) 9, type := 9, pos := "ref.go:69", after := #[{ on := 17, ground := Go.Ground.data }, { on := 21, ground := Go.Ground.data }], guard := none }) (v := ?_) rfl (by kernel_rfl) (by kernel_rfl) (by kernel_rfl) (fun _ _ _ h => h) (Or.inl ⟨by rfl, ?_⟩) (by assumption) ?_
    rotate_left 1
    focus ((intro wS hSw; (try dsimp only at hSw); go_simp) <;> (try with_reducible rfl))
    simp only [Act.put, List.setIfInBounds_toArray, List.set_cons_zero, List.set_cons_succ]
    refine wpAnyH_ready (rs := [25]) (by kernel_rfl) (by simp) ?_
    refine AllReadyH.cons (o := { dst := some 38, op := Go.Op.call { callee := Go.Callee.value (Go.Operand.func 66), args := #[Go.Operand.tmp 37, Go.Operand.const (Go.Value.int Go.IntKind.i64 100)], argTypes := #[9, 3] }, type := 9, pos := "ref.go:69", after := #[{ on := 24, ground := Go.Ground.data }, { on := 15, ground := Go.Ground.chain }], guard := none }) rfl (fun K hK => ?_) AllReadyH.nil
    go_simp
    refine (N4.out w59).mono ?_; rintro e w60 ⟨rfl, b⟩
    have BA60 := Lib.hid (BA59.out.trans (b.mono BA59.out.size))
    have BX60 := Lib.hid (BX59.out.trans (b.mono BX59.out.size))
    clear b
    go_wp2_with fail
    refine hK.out _ _ (KD.out _ BX60.out) (fun hHeld => ?_)
    clear hK K
    (try simp only [Act.put, List.setIfInBounds_toArray, List.set_cons_zero, List.set_cons_succ])
    refine wpAnyH_take (i := 26) (oi := { dst := some 39, op := Go.Op.binOp Go.BinOp.add 9 (Go.Operand.tmp 35) (Go.Operand.tmp 38) 9, type := 9, pos := "ref.go:69", after := #[{ on := 22, ground := Go.Ground.data }, { on := 25, ground := Go.Ground.data }], guard := none }) (v := ?_) rfl (by kernel_rfl) (by kernel_rfl) (by kernel_rfl) (fun _ _ _ h => h) (Or.inl ⟨by rfl, ?_⟩) (by assumption) ?_
    rotate_left 1
    focus ((intro wS hSw; (try dsimp only at hSw); go_simp) <;> (try with_reducible rfl))
    simp only [Act.put, List.setIfInBounds_toArray, List.set_cons_zero, List.set_cons_succ]
    refine wpAnyH_take (i := 27) (oi := { dst := some 40, op := Go.Op.binOp Go.BinOp.add 9 (Go.Operand.tmp 39) (Go.Operand.const (Go.Value.string { data := #[117, 115, 116, 97, 114, 0, 48, 48] })) 9, type := 9, pos := "ref.go:69", after := #[{ on := 26, ground := Go.Ground.data }], guard := none }) (v := ?_) rfl (by kernel_rfl) (by kernel_rfl) (by kernel_rfl) (fun _ _ _ h => h) (Or.inl ⟨by rfl, ?_⟩) (by assumption) ?_
    rotate_left 1
    focus ((intro wS hSw; (try dsimp only at hSw); go_simp) <;> (try with_reducible rfl))
    simp only [Act.put, List.setIfInBounds_toArray, List.set_cons_zero, List.set_cons_succ]
    refine wpAnyH_ready (rs := [28]) (by kernel_rfl) (by simp) ?_
    refine AllReadyH.cons (o := { dst := some 41, op := Go.Op.call { callee := Go.Callee.value (Go.Operand.func 66), args := #[Go.Operand.const (Go.Value.string { data := #[] }), Go.Operand.const (Go.Value.int Go.IntKind.i64 32)], argTypes := #[9, 3] }, type := 9, pos := "ref.go:69", after := #[{ on := 25, ground := Go.Ground.chain }], guard := none }) rfl (fun K hK => ?_) AllReadyH.nil
    go_simp
    refine (N32.out w60).mono ?_; rintro e w61 ⟨rfl, b⟩
    have BA61 := Lib.hid (BA60.out.trans (b.mono BA60.out.size))
    have BX61 := Lib.hid (BX60.out.trans (b.mono BX60.out.size))
    clear b
    go_wp2_with fail
    refine hK.out _ _ (KD.out _ BX61.out) (fun hHeld => ?_)
    clear hK K
    (try simp only [Act.put, List.setIfInBounds_toArray, List.set_cons_zero, List.set_cons_succ])
    refine wpAnyH_take (i := 29) (oi := { dst := some 42, op := Go.Op.binOp Go.BinOp.add 9 (Go.Operand.tmp 40) (Go.Operand.tmp 41) 9, type := 9, pos := "ref.go:69", after := #[{ on := 27, ground := Go.Ground.data }, { on := 28, ground := Go.Ground.data }], guard := none }) (v := ?_) rfl (by kernel_rfl) (by kernel_rfl) (by kernel_rfl) (fun _ _ _ h => h) (Or.inl ⟨by rfl, ?_⟩) (by assumption) ?_
    rotate_left 1
    focus ((intro wS hSw; (try dsimp only at hSw); go_simp) <;> (try with_reducible rfl))
    simp only [Act.put, List.setIfInBounds_toArray, List.set_cons_zero, List.set_cons_succ]
    refine wpAnyH_ready (rs := [30]) (by kernel_rfl) (by simp) ?_
    refine AllReadyH.cons (o := { dst := some 43, op := Go.Op.call { callee := Go.Callee.value (Go.Operand.func 66), args := #[Go.Operand.const (Go.Value.string { data := #[] }), Go.Operand.const (Go.Value.int Go.IntKind.i64 32)], argTypes := #[9, 3] }, type := 9, pos := "ref.go:69", after := #[{ on := 28, ground := Go.Ground.chain }], guard := none }) rfl (fun K hK => ?_) AllReadyH.nil
    go_simp
    refine (N32.out w61).mono ?_; rintro e w62 ⟨rfl, b⟩
    have BA62 := Lib.hid (BA61.out.trans (b.mono BA61.out.size))
    have BX62 := Lib.hid (BX61.out.trans (b.mono BX61.out.size))
    clear b
    go_wp2_with fail
    refine hK.out _ _ (KD.out _ BX62.out) (fun hHeld => ?_)
    clear hK K
    (try simp only [Act.put, List.setIfInBounds_toArray, List.set_cons_zero, List.set_cons_succ])
    refine wpAnyH_take (i := 31) (oi := { dst := some 44, op := Go.Op.binOp Go.BinOp.add 9 (Go.Operand.tmp 42) (Go.Operand.tmp 43) 9, type := 9, pos := "ref.go:69", after := #[{ on := 29, ground := Go.Ground.data }, { on := 30, ground := Go.Ground.data }], guard := none }) (v := ?_) rfl (by kernel_rfl) (by kernel_rfl) (by kernel_rfl) (fun _ _ _ h => h) (Or.inl ⟨by rfl, ?_⟩) (by assumption) ?_
    rotate_left 1
    focus ((intro wS hSw; (try dsimp only at hSw); go_simp) <;> (try with_reducible rfl))
    simp only [Act.put, List.setIfInBounds_toArray, List.set_cons_zero, List.set_cons_succ]
    refine wpAnyH_ready (rs := [32]) (by kernel_rfl) (by simp) ?_
    refine AllReadyH.cons (o := { dst := some 45, op := Go.Op.call { callee := Go.Callee.value (Go.Operand.func 67), args := #[Go.Operand.const (Go.Value.int Go.IntKind.i64 0), Go.Operand.const (Go.Value.int Go.IntKind.i64 8)], argTypes := #[2, 3] }, type := 9, pos := "ref.go:69", after := #[{ on := 30, ground := Go.Ground.chain }], guard := none }) rfl (fun K hK => ?_) AllReadyH.nil
    go_simp
    refine (N8.out w62).mono ?_; rintro e w63 ⟨rfl, b⟩
    have BA63 := Lib.hid (BA62.out.trans (b.mono BA62.out.size))
    have BX63 := Lib.hid (BX62.out.trans (b.mono BX62.out.size))
    clear b
    go_wp2_with fail
    refine hK.out _ _ (KD.out _ BX63.out) (fun hHeld => ?_)
    clear hK K
    (try simp only [Act.put, List.setIfInBounds_toArray, List.set_cons_zero, List.set_cons_succ])
    refine wpAnyH_take (i := 33) (oi := { dst := some 46, op := Go.Op.binOp Go.BinOp.add 9 (Go.Operand.tmp 44) (Go.Operand.tmp 45) 9, type := 9, pos := "ref.go:69", after := #[{ on := 31, ground := Go.Ground.data }, { on := 32, ground := Go.Ground.data }], guard := none }) (v := ?_) rfl (by kernel_rfl) (by kernel_rfl) (by kernel_rfl) (fun _ _ _ h => h) (Or.inl ⟨by rfl, ?_⟩) (by assumption) ?_
    rotate_left 1
    focus ((intro wS hSw; (try dsimp only at hSw); go_simp) <;> (try with_reducible rfl))
    simp only [Act.put, List.setIfInBounds_toArray, List.set_cons_zero, List.set_cons_succ]
    refine wpAnyH_ready (rs := [34]) (by kernel_rfl) (by simp) ?_
    refine AllReadyH.cons (o := { dst := some 47, op := Go.Op.call { callee := Go.Callee.value (Go.Operand.func 67), args := #[Go.Operand.const (Go.Value.int Go.IntKind.i64 0), Go.Operand.const (Go.Value.int Go.IntKind.i64 8)], argTypes := #[2, 3] }, type := 9, pos := "ref.go:69", after := #[{ on := 32, ground := Go.Ground.chain }], guard := none }) rfl (fun K hK => ?_) AllReadyH.nil
    go_simp
    refine (N8.out w63).mono ?_; rintro e w64 ⟨rfl, b⟩
    have BA64 := Lib.hid (BA63.out.trans (b.mono BA63.out.size))
    have BX64 := Lib.hid (BX63.out.trans (b.mono BX63.out.size))
    clear b
    go_wp2_with fail
    refine hK.out _ _ (KD.out _ BX64.out) (fun hHeld => ?_)
    clear hK K
    (try simp only [Act.put, List.setIfInBounds_toArray, List.set_cons_zero, List.set_cons_succ])
    refine wpAnyH_take (i := 35) (oi := { dst := some 48, op := Go.Op.binOp Go.BinOp.add 9 (Go.Operand.tmp 46) (Go.Operand.tmp 47) 9, type := 9, pos := "ref.go:69", after := #[{ on := 33, ground := Go.Ground.data }, { on := 34, ground := Go.Ground.data }], guard := none }) (v := ?_) rfl (by kernel_rfl) (by kernel_rfl) (by kernel_rfl) (fun _ _ _ h => h) (Or.inl ⟨by rfl, ?_⟩) (by assumption) ?_
    rotate_left 1
    focus ((intro wS hSw; (try dsimp only at hSw); go_simp) <;> (try with_reducible rfl))
    simp only [Act.put, List.setIfInBounds_toArray, List.set_cons_zero, List.set_cons_succ]
    refine wpAnyH_ready (rs := [38]) (by kernel_rfl) (by simp) ?_
    refine AllReadyH.cons (o := { dst := some 51, op := Go.Op.call { callee := Go.Callee.value (Go.Operand.func 66), args := #[Go.Operand.tmp 50, Go.Operand.const (Go.Value.int Go.IntKind.i64 155)], argTypes := #[9, 3] }, type := 9, pos := "ref.go:69", after := #[{ on := 37, ground := Go.Ground.data }, { on := 34, ground := Go.Ground.chain }], guard := none }) rfl (fun K hK => ?_) AllReadyH.nil
    go_simp
    refine (N5.out w64).mono ?_; rintro e w65 ⟨rfl, b⟩
    have BA65 := Lib.hid (BA64.out.trans (b.mono BA64.out.size))
    have BX65 := Lib.hid (BX64.out.trans (b.mono BX64.out.size))
    clear b
    go_wp2_with fail
    refine hK.out _ _ (KD.out _ BX65.out) (fun hHeld => ?_)
    clear hK K
    (try simp only [Act.put, List.setIfInBounds_toArray, List.set_cons_zero, List.set_cons_succ])
    refine wpAnyH_take (i := 39) (oi := { dst := some 52, op := Go.Op.binOp Go.BinOp.add 9 (Go.Operand.tmp 48) (Go.Operand.tmp 51) 9, type := 9, pos := "ref.go:69", after := #[{ on := 35, ground := Go.Ground.data }, { on := 38, ground := Go.Ground.data }], guard := none }) (v := ?_) rfl (by kernel_rfl) (by kernel_rfl) (by kernel_rfl) (fun _ _ _ h => h) (Or.inl ⟨by rfl, ?_⟩) (by assumption) ?_
    rotate_left 1
    focus ((intro wS hSw; (try dsimp only at hSw); go_simp) <;> (try with_reducible rfl))
    simp only [Act.put, List.setIfInBounds_toArray, List.set_cons_zero, List.set_cons_succ]
    refine wpAnyH_ready (rs := [40]) (by kernel_rfl) (by simp) ?_
    refine AllReadyH.cons (o := { dst := some 53, op := Go.Op.call { callee := Go.Callee.value (Go.Operand.func 66), args := #[Go.Operand.const (Go.Value.string { data := #[] }), Go.Operand.const (Go.Value.int Go.IntKind.i64 12)], argTypes := #[9, 3] }, type := 9, pos := "ref.go:69", after := #[{ on := 38, ground := Go.Ground.chain }], guard := none }) rfl (fun K hK => ?_) AllReadyH.nil
    go_simp
    refine (NX.out w65).mono ?_; rintro e w66 ⟨rfl, b⟩
    have BA66 := Lib.hid (BA65.out.trans (b.mono BA65.out.size))
    have BX66 := Lib.hid (BX65.out.trans (b.mono BX65.out.size))
    clear b
    go_wp2_with fail
    refine hK.out _ _ (KD.out _ BX66.out) (fun hHeld => ?_)
    clear hK K
    (try simp only [Act.put, List.setIfInBounds_toArray, List.set_cons_zero, List.set_cons_succ])
    refine wpAnyH_take (i := 41) (oi := { dst := some 54, op := Go.Op.binOp Go.BinOp.add 9 (Go.Operand.tmp 52) (Go.Operand.tmp 53) 9, type := 9, pos := "ref.go:69", after := #[{ on := 39, ground := Go.Ground.data }, { on := 40, ground := Go.Ground.data }], guard := none }) (v := ?_) rfl (by kernel_rfl) (by kernel_rfl) (by kernel_rfl) (fun _ _ _ h => h) (Or.inl ⟨by rfl, ?_⟩) (by assumption) ?_
    rotate_left 1
    focus ((intro wS hSw; (try dsimp only at hSw); go_simp) <;> (try with_reducible rfl))
    simp only [Act.put, List.setIfInBounds_toArray, List.set_cons_zero, List.set_cons_succ]
    refine wpAnyH_take (i := 42) (oi := { dst := some 5, op := Go.Op.assign (Go.Operand.tmp 54), type := 9, pos := "ref.go:69", after := #[{ on := 41, ground := Go.Ground.data }, { on := 40, ground := Go.Ground.chain }, { on := 0, ground := Go.Ground.phase }, { on := 1, ground := Go.Ground.phase }, { on := 2, ground := Go.Ground.phase }, { on := 3, ground := Go.Ground.phase }, { on := 4, ground := Go.Ground.phase }, { on := 5, ground := Go.Ground.phase }, { on := 6, ground := Go.Ground.phase }, { on := 7, ground := Go.Ground.phase }, { on := 8, ground := Go.Ground.phase }, { on := 9, ground := Go.Ground.phase }, { on := 10, ground := Go.Ground.phase }, { on := 11, ground := Go.Ground.phase }, { on := 12, ground := Go.Ground.phase }, { on := 13, ground := Go.Ground.phase }, { on := 14, ground := Go.Ground.phase }, { on := 15, ground := Go.Ground.phase }, { on := 16, ground := Go.Ground.phase }, { on := 17, ground := Go.Ground.phase }, { on := 18, ground := Go.Ground.phase }, { on := 19, ground := Go.Ground.phase }, { on := 20, ground := Go.Ground.phase }, { on := 21, ground := Go.Ground.phase }, { on := 22, ground := Go.Ground.phase }, { on := 23, ground := Go.Ground.phase }, { on := 24, ground := Go.Ground.phase }, { on := 25, ground := Go.Ground.phase }, { on := 26, ground := Go.Ground.phase }, { on := 27, ground := Go.Ground.phase }, { on := 28, ground := Go.Ground.phase }, { on := 29, ground := Go.Ground.phase }, { on := 30, ground := Go.Ground.phase }, { on := 31, ground := Go.Ground.phase }, { on := 32, ground := Go.Ground.phase }, { on := 33, ground := Go.Ground.phase }, { on := 34, ground := Go.Ground.phase }, { on := 35, ground := Go.Ground.phase }, { on := 36, ground := Go.Ground.phase }, { on := 37, ground := Go.Ground.phase }, { on := 38, ground := Go.Ground.phase }, { on := 39, ground := Go.Ground.phase }, { on := 40, ground := Go.Ground.phase }, { on := 41, ground := Go.Ground.phase }], guard := none }) (v := ?_) rfl (by kernel_rfl) (by kernel_rfl) (by kernel_rfl) (fun _ _ _ h => h) (Or.inl ⟨by rfl, ?_⟩) (by assumption) ?_
    rotate_left 1
    focus ((intro wS hSw; (try dsimp only at hSw); go_simp) <;> (try with_reducible rfl))
    simp only [Act.put, List.setIfInBounds_toArray, List.set_cons_zero, List.set_cons_succ]
    refine wpAnyH_done (by kernel_rfl) ?_ _
    obtain ⟨S9, hS9⟩ := named (((((((((((((((s1 ++ o1) ++ o8) ++ o8) ++ o3) ++ o12) ++ { data := #[32, 32, 32, 32, 32, 32, 32, 32] }) ++ ST) ++ s4) ++ { data := #[117, 115, 116, 97, 114, 0, 48, 48] }) ++ x32) ++ x32) ++ o8) ++ o8) ++ s5) ++ xx)
    rw [← hS9.out]
    have hz : numsOf S9 = rawH T nm pf lk md sz := hS9.out ▸ HBIG.out
    have hsz : S9.size = 512 := by rw [← numsOf_length, hz]; exact HRL.out
    obtain ⟨c9, w9, hrun, hrow, hbel, hlt⟩ := run_bytes_of (P := Tryz.prog) w66 Tryz.underlying9 Tryz.underlying24 Tryz.underlying5 S9
    rw [hsz] at hrun
    rw [hz] at hrow
    have hcap : Hid (512 ≤ c9) := CAP.out _ _ _ _ hsz hrun
    have B9 := Lib.hid (BA66.out.trans (hbel.mono BA66.out.size)); have R9 := Lib.hid (BytesIn.of_row hrow hlt)
    clear hbel hrow hlt
    go_wp2_with fail
    refine (Chk.rseal_ok _ c9 _ w9 HRL.out R9.out hcap.out).mono ?_; rintro e w10 ⟨b10, c10, rfl, hr10, hl10, hb10⟩
    have B10 := Lib.hid (B9.out.trans (hb10.mono B9.out.size)); have R10 := Lib.hid hr10; have L10 := Lib.hid hl10
    clear hr10 hl10 hb10
    go_wp2_with fail
    go_ret2
    exact ⟨b10, c10, rfl, R10.out, L10.out, B2.out.trans (B10.out.mono B2.out.size)⟩
  go_simp
  refine (N3.out w56).mono ?_; rintro e w67 ⟨rfl, b⟩
  have BA67 := Lib.hid (BA56.out.trans (b.mono BA56.out.size))
  clear b
  go_wp2_with fail
  refine hK.out _ _ (KC.out _ BA67.out) (fun hHeld => ?_)
  clear hK K
  (try simp only [Act.put, List.setIfInBounds_toArray, List.set_cons_zero, List.set_cons_succ])
  refine wpAnyH_take (i := 14) (oi := { dst := some 27, op := Go.Op.binOp Go.BinOp.add 9 (Go.Operand.tmp 23) (Go.Operand.tmp 26) 9, type := 9, pos := "ref.go:69", after := #[{ on := 10, ground := Go.Ground.data }, { on := 13, ground := Go.Ground.data }], guard := none }) (v := ?_) rfl (by kernel_rfl) (by kernel_rfl) (by kernel_rfl) (fun _ _ _ h => h) (Or.inl ⟨by rfl, ?_⟩) (by assumption) ?_
  rotate_left 1
  focus ((intro wS hSw; (try dsimp only at hSw); go_simp) <;> (try with_reducible rfl))
  simp only [Act.put, List.setIfInBounds_toArray, List.set_cons_zero, List.set_cons_succ]
  refine wpAnyH_ready (rs := [15, 20]) (by kernel_rfl) (by simp) ?_
  refine AllReadyH.cons (o := { dst := some 28, op := Go.Op.call { callee := Go.Callee.value (Go.Operand.func 67), args := #[Go.Operand.const (Go.Value.int Go.IntKind.i64 0), Go.Operand.const (Go.Value.int Go.IntKind.i64 12)], argTypes := #[2, 3] }, type := 9, pos := "ref.go:69", after := #[{ on := 13, ground := Go.Ground.chain }], guard := none }) rfl (fun K hK => ?_) ?_
  rotate_left 1
  · refine AllReadyH.cons (o := { dst := some 33, op := Go.Op.buildSlice 24 1 #[(0, Go.Operand.tmp 32)], type := 24, pos := "ref.go:69", after := #[{ on := 19, ground := Go.Ground.data }], guard := none }) rfl (fun K hK => ?_) AllReadyH.nil
    go_simp
    obtain ⟨w68, hw68⟩ := named (w67.alloc (.cells #[.int .u8 T] 5 (0, 0)))
    rw [← hw68.out]
    have b68 : Below w67.heap.size w67 w68 := by rw [hw68.out]; exact (Below.refl _ _).alloc (Nat.le_refl _) _
    have BA68 := Lib.hid (BA67.out.trans (b68.mono BA67.out.size))
    have KD : Hid (∀ w', Below w68.heap.size w68 w' → (fun w' => (convert 24 9 (.slice (some ⟨w67.heap.size, 0, none⟩) 1 1)).run Tryz.prog w' = .ok (.string ST) w' ∧ w'.cell? ⟨w.heap.size, 0, none⟩ = some (.int .u8 T) ∧ w'.cell? ⟨w.heap.size, 1, none⟩ = some (.string nm) ∧ w'.cell? ⟨w.heap.size, 2, none⟩ = some (.string pf) ∧ w'.cell? ⟨w.heap.size, 3, none⟩ = some (.string lk) ∧ w'.cell? ⟨w.heap.size, 4, none⟩ = some (.int .i64 md) ∧ w'.cell? ⟨w.heap.size, 5, none⟩ = some (.int .i64 sz)) w') := KDL.out w67 w68 (by rw [hw68.out]) BA68.out
    clear b68
    refine hK.out _ _ (KC.out _ BA68.out) (fun hHeld => ?_)
    clear hK K
    (try simp only [Act.put, List.setIfInBounds_toArray, List.set_cons_zero, List.set_cons_succ])
    refine wpAnyH_switch (S2 := (fun w' => (convert 24 9 (.slice (some ⟨w67.heap.size, 0, none⟩) 1 1)).run Tryz.prog w' = .ok (.string ST) w' ∧ w'.cell? ⟨w.heap.size, 0, none⟩ = some (.int .u8 T) ∧ w'.cell? ⟨w.heap.size, 1, none⟩ = some (.string nm) ∧ w'.cell? ⟨w.heap.size, 2, none⟩ = some (.string pf) ∧ w'.cell? ⟨w.heap.size, 3, none⟩ = some (.string lk) ∧ w'.cell? ⟨w.heap.size, 4, none⟩ = some (.int .i64 md) ∧ w'.cell? ⟨w.heap.size, 5, none⟩ = some (.int .i64 sz))) (fun _ h => h.2) ?_
    have hHeld : ((fun w' => (convert 24 9 (.slice (some ⟨w67.heap.size, 0, none⟩) 1 1)).run Tryz.prog w' = .ok (.string ST) w' ∧ w'.cell? ⟨w.heap.size, 0, none⟩ = some (.int .u8 T) ∧ w'.cell? ⟨w.heap.size, 1, none⟩ = some (.string nm) ∧ w'.cell? ⟨w.heap.size, 2, none⟩ = some (.string pf) ∧ w'.cell? ⟨w.heap.size, 3, none⟩ = some (.string lk) ∧ w'.cell? ⟨w.heap.size, 4, none⟩ = some (.int .i64 md) ∧ w'.cell? ⟨w.heap.size, 5, none⟩ = some (.int .i64 sz))) w68 := KD.out _ (Below.refl _ _)
    refine wpAnyH_take (i := 21) (oi := { dst := some 34, op := Go.Op.convert 24 9 (Go.Operand.tmp 33), type := 9, pos := "ref.go:69", after := #[{ on := 20, ground := Go.Ground.data }], guard := none }) (v := ?_) rfl (by kernel_rfl) (by kernel_rfl) (by kernel_rfl) (fun _ _ _ h => h) (Or.inl ⟨by rfl, ?_⟩) (by assumption) ?_
    rotate_left 1
    focus ((intro wS hSw; (try dsimp only at hSw); go_simp) <;> (try with_reducible rfl))
    simp only [Act.put, List.setIfInBounds_toArray, List.set_cons_zero, List.set_cons_succ]
    refine wpAnyH_ready (rs := [15]) (by kernel_rfl) (by simp) ?_
    refine AllReadyH.cons (o := { dst := some 28, op := Go.Op.call { callee := Go.Callee.value (Go.Operand.func 67), args := #[Go.Operand.const (Go.Value.int Go.IntKind.i64 0), Go.Operand.const (Go.Value.int Go.IntKind.i64 12)], argTypes := #[2, 3] }, type := 9, pos := "ref.go:69", after := #[{ on := 13, ground := Go.Ground.chain }], guard := none }) rfl (fun K hK => ?_) AllReadyH.nil
    go_simp
    refine (N12.out w68).mono ?_; rintro e w69 ⟨rfl, b⟩
    have BA69 := Lib.hid (BA68.out.trans (b.mono BA68.out.size))
    have BX69 := Lib.hid b
    clear b
    go_wp2_with fail
    refine hK.out _ _ (KD.out _ BX69.out) (fun hHeld => ?_)
    clear hK K
    (try simp only [Act.put, List.setIfInBounds_toArray, List.set_cons_zero, List.set_cons_succ])
    refine wpAnyH_take (i := 16) (oi := { dst := some 29, op := Go.Op.binOp Go.BinOp.add 9 (Go.Operand.tmp 27) (Go.Operand.tmp 28) 9, type := 9, pos := "ref.go:69", after := #[{ on := 14, ground := Go.Ground.data }, { on := 15, ground := Go.Ground.data }], guard := none }) (v := ?_) rfl (by kernel_rfl) (by kernel_rfl) (by kernel_rfl) (fun _ _ _ h => h) (Or.inl ⟨by rfl, ?_⟩) (by assumption) ?_
    rotate_left 1
    focus ((intro wS hSw; (try dsimp only at hSw); go_simp) <;> (try with_reducible rfl))
    simp only [Act.put, List.setIfInBounds_toArray, List.set_cons_zero, List.set_cons_succ]
    refine wpAnyH_take (i := 17) (oi := { dst := some 30, op := Go.Op.binOp Go.BinOp.add 9 (Go.Operand.tmp 29) (Go.Operand.const (Go.Value.string { data := #[32, 32, 32, 32, 32, 32, 32, 32] })) 9, type := 9, pos := "ref.go:69", after := #[{ on := 16, ground := Go.Ground.data }], guard := none }) (v := ?_) rfl (by kernel_rfl) (by kernel_rfl) (by kernel_rfl) (fun _ _ _ h => h) (Or.inl ⟨by rfl, ?_⟩) (by assumption) ?_
    rotate_left 1
    focus ((intro wS hSw; (try dsimp only at hSw); go_simp) <;> (try with_reducible rfl))
    simp only [Act.put, List.setIfInBounds_toArray, List.set_cons_zero, List.set_cons_succ]
    refine wpAnyH_take (i := 22) (oi := { dst := some 35, op := Go.Op.binOp Go.BinOp.add 9 (Go.Operand.tmp 30) (Go.Operand.tmp 34) 9, type := 9, pos := "ref.go:69", after := #[{ on := 17, ground := Go.Ground.data }, { on := 21, ground := Go.Ground.data }], guard := none }) (v := ?_) rfl (by kernel_rfl) (by kernel_rfl) (by kernel_rfl) (fun _ _ _ h => h) (Or.inl ⟨by rfl, ?_⟩) (by assumption) ?_
    rotate_left 1
    focus ((intro wS hSw; (try dsimp only at hSw); go_simp) <;> (try with_reducible rfl))
    simp only [Act.put, List.setIfInBounds_toArray, List.set_cons_zero, List.set_cons_succ]
    refine wpAnyH_ready (rs := [25]) (by kernel_rfl) (by simp) ?_
    refine AllReadyH.cons (o := { dst := some 38, op := Go.Op.call { callee := Go.Callee.value (Go.Operand.func 66), args := #[Go.Operand.tmp 37, Go.Operand.const (Go.Value.int Go.IntKind.i64 100)], argTypes := #[9, 3] }, type := 9, pos := "ref.go:69", after := #[{ on := 24, ground := Go.Ground.data }, { on := 15, ground := Go.Ground.chain }], guard := none }) rfl (fun K hK => ?_) AllReadyH.nil
    go_simp
    refine (N4.out w69).mono ?_; rintro e w70 ⟨rfl, b⟩
    have BA70 := Lib.hid (BA69.out.trans (b.mono BA69.out.size))
    have BX70 := Lib.hid (BX69.out.trans (b.mono BX69.out.size))
    clear b
    go_wp2_with fail
    refine hK.out _ _ (KD.out _ BX70.out) (fun hHeld => ?_)
    clear hK K
    (try simp only [Act.put, List.setIfInBounds_toArray, List.set_cons_zero, List.set_cons_succ])
    refine wpAnyH_take (i := 26) (oi := { dst := some 39, op := Go.Op.binOp Go.BinOp.add 9 (Go.Operand.tmp 35) (Go.Operand.tmp 38) 9, type := 9, pos := "ref.go:69", after := #[{ on := 22, ground := Go.Ground.data }, { on := 25, ground := Go.Ground.data }], guard := none }) (v := ?_) rfl (by kernel_rfl) (by kernel_rfl) (by kernel_rfl) (fun _ _ _ h => h) (Or.inl ⟨by rfl, ?_⟩) (by assumption) ?_
    rotate_left 1
    focus ((intro wS hSw; (try dsimp only at hSw); go_simp) <;> (try with_reducible rfl))
    simp only [Act.put, List.setIfInBounds_toArray, List.set_cons_zero, List.set_cons_succ]
    refine wpAnyH_take (i := 27) (oi := { dst := some 40, op := Go.Op.binOp Go.BinOp.add 9 (Go.Operand.tmp 39) (Go.Operand.const (Go.Value.string { data := #[117, 115, 116, 97, 114, 0, 48, 48] })) 9, type := 9, pos := "ref.go:69", after := #[{ on := 26, ground := Go.Ground.data }], guard := none }) (v := ?_) rfl (by kernel_rfl) (by kernel_rfl) (by kernel_rfl) (fun _ _ _ h => h) (Or.inl ⟨by rfl, ?_⟩) (by assumption) ?_
    rotate_left 1
    focus ((intro wS hSw; (try dsimp only at hSw); go_simp) <;> (try with_reducible rfl))
    simp only [Act.put, List.setIfInBounds_toArray, List.set_cons_zero, List.set_cons_succ]
    refine wpAnyH_ready (rs := [28]) (by kernel_rfl) (by simp) ?_
    refine AllReadyH.cons (o := { dst := some 41, op := Go.Op.call { callee := Go.Callee.value (Go.Operand.func 66), args := #[Go.Operand.const (Go.Value.string { data := #[] }), Go.Operand.const (Go.Value.int Go.IntKind.i64 32)], argTypes := #[9, 3] }, type := 9, pos := "ref.go:69", after := #[{ on := 25, ground := Go.Ground.chain }], guard := none }) rfl (fun K hK => ?_) AllReadyH.nil
    go_simp
    refine (N32.out w70).mono ?_; rintro e w71 ⟨rfl, b⟩
    have BA71 := Lib.hid (BA70.out.trans (b.mono BA70.out.size))
    have BX71 := Lib.hid (BX70.out.trans (b.mono BX70.out.size))
    clear b
    go_wp2_with fail
    refine hK.out _ _ (KD.out _ BX71.out) (fun hHeld => ?_)
    clear hK K
    (try simp only [Act.put, List.setIfInBounds_toArray, List.set_cons_zero, List.set_cons_succ])
    refine wpAnyH_take (i := 29) (oi := { dst := some 42, op := Go.Op.binOp Go.BinOp.add 9 (Go.Operand.tmp 40) (Go.Operand.tmp 41) 9, type := 9, pos := "ref.go:69", after := #[{ on := 27, ground := Go.Ground.data }, { on := 28, ground := Go.Ground.data }], guard := none }) (v := ?_) rfl (by kernel_rfl) (by kernel_rfl) (by kernel_rfl) (fun _ _ _ h => h) (Or.inl ⟨by rfl, ?_⟩) (by assumption) ?_
    rotate_left 1
    focus ((intro wS hSw; (try dsimp only at hSw); go_simp) <;> (try with_reducible rfl))
    simp only [Act.put, List.setIfInBounds_toArray, List.set_cons_zero, List.set_cons_succ]
    refine wpAnyH_ready (rs := [30]) (by kernel_rfl) (by simp) ?_
    refine AllReadyH.cons (o := { dst := some 43, op := Go.Op.call { callee := Go.Callee.value (Go.Operand.func 66), args := #[Go.Operand.const (Go.Value.string { data := #[] }), Go.Operand.const (Go.Value.int Go.IntKind.i64 32)], argTypes := #[9, 3] }, type := 9, pos := "ref.go:69", after := #[{ on := 28, ground := Go.Ground.chain }], guard := none }) rfl (fun K hK => ?_) AllReadyH.nil
    go_simp
    refine (N32.out w71).mono ?_; rintro e w72 ⟨rfl, b⟩
    have BA72 := Lib.hid (BA71.out.trans (b.mono BA71.out.size))
    have BX72 := Lib.hid (BX71.out.trans (b.mono BX71.out.size))
    clear b
    go_wp2_with fail
    refine hK.out _ _ (KD.out _ BX72.out) (fun hHeld => ?_)
    clear hK K
    (try simp only [Act.put, List.setIfInBounds_toArray, List.set_cons_zero, List.set_cons_succ])
    refine wpAnyH_take (i := 31) (oi := { dst := some 44, op := Go.Op.binOp Go.BinOp.add 9 (Go.Operand.tmp 42) (Go.Operand.tmp 43) 9, type := 9, pos := "ref.go:69", after := #[{ on := 29, ground := Go.Ground.data }, { on := 30, ground := Go.Ground.data }], guard := none }) (v := ?_) rfl (by kernel_rfl) (by kernel_rfl) (by kernel_rfl) (fun _ _ _ h => h) (Or.inl ⟨by rfl, ?_⟩) (by assumption) ?_
    rotate_left 1
    focus ((intro wS hSw; (try dsimp only at hSw); go_simp) <;> (try with_reducible rfl))
    simp only [Act.put, List.setIfInBounds_toArray, List.set_cons_zero, List.set_cons_succ]
    refine wpAnyH_ready (rs := [32]) (by kernel_rfl) (by simp) ?_
    refine AllReadyH.cons (o := { dst := some 45, op := Go.Op.call { callee := Go.Callee.value (Go.Operand.func 67), args := #[Go.Operand.const (Go.Value.int Go.IntKind.i64 0), Go.Operand.const (Go.Value.int Go.IntKind.i64 8)], argTypes := #[2, 3] }, type := 9, pos := "ref.go:69", after := #[{ on := 30, ground := Go.Ground.chain }], guard := none }) rfl (fun K hK => ?_) AllReadyH.nil
    go_simp
    refine (N8.out w72).mono ?_; rintro e w73 ⟨rfl, b⟩
    have BA73 := Lib.hid (BA72.out.trans (b.mono BA72.out.size))
    have BX73 := Lib.hid (BX72.out.trans (b.mono BX72.out.size))
    clear b
    go_wp2_with fail
    refine hK.out _ _ (KD.out _ BX73.out) (fun hHeld => ?_)
    clear hK K
    (try simp only [Act.put, List.setIfInBounds_toArray, List.set_cons_zero, List.set_cons_succ])
    refine wpAnyH_take (i := 33) (oi := { dst := some 46, op := Go.Op.binOp Go.BinOp.add 9 (Go.Operand.tmp 44) (Go.Operand.tmp 45) 9, type := 9, pos := "ref.go:69", after := #[{ on := 31, ground := Go.Ground.data }, { on := 32, ground := Go.Ground.data }], guard := none }) (v := ?_) rfl (by kernel_rfl) (by kernel_rfl) (by kernel_rfl) (fun _ _ _ h => h) (Or.inl ⟨by rfl, ?_⟩) (by assumption) ?_
    rotate_left 1
    focus ((intro wS hSw; (try dsimp only at hSw); go_simp) <;> (try with_reducible rfl))
    simp only [Act.put, List.setIfInBounds_toArray, List.set_cons_zero, List.set_cons_succ]
    refine wpAnyH_ready (rs := [34]) (by kernel_rfl) (by simp) ?_
    refine AllReadyH.cons (o := { dst := some 47, op := Go.Op.call { callee := Go.Callee.value (Go.Operand.func 67), args := #[Go.Operand.const (Go.Value.int Go.IntKind.i64 0), Go.Operand.const (Go.Value.int Go.IntKind.i64 8)], argTypes := #[2, 3] }, type := 9, pos := "ref.go:69", after := #[{ on := 32, ground := Go.Ground.chain }], guard := none }) rfl (fun K hK => ?_) AllReadyH.nil
    go_simp
    refine (N8.out w73).mono ?_; rintro e w74 ⟨rfl, b⟩
    have BA74 := Lib.hid (BA73.out.trans (b.mono BA73.out.size))
    have BX74 := Lib.hid (BX73.out.trans (b.mono BX73.out.size))
    clear b
    go_wp2_with fail
    refine hK.out _ _ (KD.out _ BX74.out) (fun hHeld => ?_)
    clear hK K
    (try simp only [Act.put, List.setIfInBounds_toArray, List.set_cons_zero, List.set_cons_succ])
    refine wpAnyH_take (i := 35) (oi := { dst := some 48, op := Go.Op.binOp Go.BinOp.add 9 (Go.Operand.tmp 46) (Go.Operand.tmp 47) 9, type := 9, pos := "ref.go:69", after := #[{ on := 33, ground := Go.Ground.data }, { on := 34, ground := Go.Ground.data }], guard := none }) (v := ?_) rfl (by kernel_rfl) (by kernel_rfl) (by kernel_rfl) (fun _ _ _ h => h) (Or.inl ⟨by rfl, ?_⟩) (by assumption) ?_
    rotate_left 1
    focus ((intro wS hSw; (try dsimp only at hSw); go_simp) <;> (try with_reducible rfl))
    simp only [Act.put, List.setIfInBounds_toArray, List.set_cons_zero, List.set_cons_succ]
    refine wpAnyH_ready (rs := [38]) (by kernel_rfl) (by simp) ?_
    refine AllReadyH.cons (o := { dst := some 51, op := Go.Op.call { callee := Go.Callee.value (Go.Operand.func 66), args := #[Go.Operand.tmp 50, Go.Operand.const (Go.Value.int Go.IntKind.i64 155)], argTypes := #[9, 3] }, type := 9, pos := "ref.go:69", after := #[{ on := 37, ground := Go.Ground.data }, { on := 34, ground := Go.Ground.chain }], guard := none }) rfl (fun K hK => ?_) AllReadyH.nil
    go_simp
    refine (N5.out w74).mono ?_; rintro e w75 ⟨rfl, b⟩
    have BA75 := Lib.hid (BA74.out.trans (b.mono BA74.out.size))
    have BX75 := Lib.hid (BX74.out.trans (b.mono BX74.out.size))
    clear b
    go_wp2_with fail
    refine hK.out _ _ (KD.out _ BX75.out) (fun hHeld => ?_)
    clear hK K
    (try simp only [Act.put, List.setIfInBounds_toArray, List.set_cons_zero, List.set_cons_succ])
    refine wpAnyH_take (i := 39) (oi := { dst := some 52, op := Go.Op.binOp Go.BinOp.add 9 (Go.Operand.tmp 48) (Go.Operand.tmp 51) 9, type := 9, pos := "ref.go:69", after := #[{ on := 35, ground := Go.Ground.data }, { on := 38, ground := Go.Ground.data }], guard := none }) (v := ?_) rfl (by kernel_rfl) (by kernel_rfl) (by kernel_rfl) (fun _ _ _ h => h) (Or.inl ⟨by rfl, ?_⟩) (by assumption) ?_
    rotate_left 1
    focus ((intro wS hSw; (try dsimp only at hSw); go_simp) <;> (try with_reducible rfl))
    simp only [Act.put, List.setIfInBounds_toArray, List.set_cons_zero, List.set_cons_succ]
    refine wpAnyH_ready (rs := [40]) (by kernel_rfl) (by simp) ?_
    refine AllReadyH.cons (o := { dst := some 53, op := Go.Op.call { callee := Go.Callee.value (Go.Operand.func 66), args := #[Go.Operand.const (Go.Value.string { data := #[] }), Go.Operand.const (Go.Value.int Go.IntKind.i64 12)], argTypes := #[9, 3] }, type := 9, pos := "ref.go:69", after := #[{ on := 38, ground := Go.Ground.chain }], guard := none }) rfl (fun K hK => ?_) AllReadyH.nil
    go_simp
    refine (NX.out w75).mono ?_; rintro e w76 ⟨rfl, b⟩
    have BA76 := Lib.hid (BA75.out.trans (b.mono BA75.out.size))
    have BX76 := Lib.hid (BX75.out.trans (b.mono BX75.out.size))
    clear b
    go_wp2_with fail
    refine hK.out _ _ (KD.out _ BX76.out) (fun hHeld => ?_)
    clear hK K
    (try simp only [Act.put, List.setIfInBounds_toArray, List.set_cons_zero, List.set_cons_succ])
    refine wpAnyH_take (i := 41) (oi := { dst := some 54, op := Go.Op.binOp Go.BinOp.add 9 (Go.Operand.tmp 52) (Go.Operand.tmp 53) 9, type := 9, pos := "ref.go:69", after := #[{ on := 39, ground := Go.Ground.data }, { on := 40, ground := Go.Ground.data }], guard := none }) (v := ?_) rfl (by kernel_rfl) (by kernel_rfl) (by kernel_rfl) (fun _ _ _ h => h) (Or.inl ⟨by rfl, ?_⟩) (by assumption) ?_
    rotate_left 1
    focus ((intro wS hSw; (try dsimp only at hSw); go_simp) <;> (try with_reducible rfl))
    simp only [Act.put, List.setIfInBounds_toArray, List.set_cons_zero, List.set_cons_succ]
    refine wpAnyH_take (i := 42) (oi := { dst := some 5, op := Go.Op.assign (Go.Operand.tmp 54), type := 9, pos := "ref.go:69", after := #[{ on := 41, ground := Go.Ground.data }, { on := 40, ground := Go.Ground.chain }, { on := 0, ground := Go.Ground.phase }, { on := 1, ground := Go.Ground.phase }, { on := 2, ground := Go.Ground.phase }, { on := 3, ground := Go.Ground.phase }, { on := 4, ground := Go.Ground.phase }, { on := 5, ground := Go.Ground.phase }, { on := 6, ground := Go.Ground.phase }, { on := 7, ground := Go.Ground.phase }, { on := 8, ground := Go.Ground.phase }, { on := 9, ground := Go.Ground.phase }, { on := 10, ground := Go.Ground.phase }, { on := 11, ground := Go.Ground.phase }, { on := 12, ground := Go.Ground.phase }, { on := 13, ground := Go.Ground.phase }, { on := 14, ground := Go.Ground.phase }, { on := 15, ground := Go.Ground.phase }, { on := 16, ground := Go.Ground.phase }, { on := 17, ground := Go.Ground.phase }, { on := 18, ground := Go.Ground.phase }, { on := 19, ground := Go.Ground.phase }, { on := 20, ground := Go.Ground.phase }, { on := 21, ground := Go.Ground.phase }, { on := 22, ground := Go.Ground.phase }, { on := 23, ground := Go.Ground.phase }, { on := 24, ground := Go.Ground.phase }, { on := 25, ground := Go.Ground.phase }, { on := 26, ground := Go.Ground.phase }, { on := 27, ground := Go.Ground.phase }, { on := 28, ground := Go.Ground.phase }, { on := 29, ground := Go.Ground.phase }, { on := 30, ground := Go.Ground.phase }, { on := 31, ground := Go.Ground.phase }, { on := 32, ground := Go.Ground.phase }, { on := 33, ground := Go.Ground.phase }, { on := 34, ground := Go.Ground.phase }, { on := 35, ground := Go.Ground.phase }, { on := 36, ground := Go.Ground.phase }, { on := 37, ground := Go.Ground.phase }, { on := 38, ground := Go.Ground.phase }, { on := 39, ground := Go.Ground.phase }, { on := 40, ground := Go.Ground.phase }, { on := 41, ground := Go.Ground.phase }], guard := none }) (v := ?_) rfl (by kernel_rfl) (by kernel_rfl) (by kernel_rfl) (fun _ _ _ h => h) (Or.inl ⟨by rfl, ?_⟩) (by assumption) ?_
    rotate_left 1
    focus ((intro wS hSw; (try dsimp only at hSw); go_simp) <;> (try with_reducible rfl))
    simp only [Act.put, List.setIfInBounds_toArray, List.set_cons_zero, List.set_cons_succ]
    refine wpAnyH_done (by kernel_rfl) ?_ _
    obtain ⟨S9, hS9⟩ := named (((((((((((((((s1 ++ o1) ++ o8) ++ o8) ++ o3) ++ o12) ++ { data := #[32, 32, 32, 32, 32, 32, 32, 32] }) ++ ST) ++ s4) ++ { data := #[117, 115, 116, 97, 114, 0, 48, 48] }) ++ x32) ++ x32) ++ o8) ++ o8) ++ s5) ++ xx)
    rw [← hS9.out]
    have hz : numsOf S9 = rawH T nm pf lk md sz := hS9.out ▸ HBIG.out
    have hsz : S9.size = 512 := by rw [← numsOf_length, hz]; exact HRL.out
    obtain ⟨c9, w9, hrun, hrow, hbel, hlt⟩ := run_bytes_of (P := Tryz.prog) w76 Tryz.underlying9 Tryz.underlying24 Tryz.underlying5 S9
    rw [hsz] at hrun
    rw [hz] at hrow
    have hcap : Hid (512 ≤ c9) := CAP.out _ _ _ _ hsz hrun
    have B9 := Lib.hid (BA76.out.trans (hbel.mono BA76.out.size)); have R9 := Lib.hid (BytesIn.of_row hrow hlt)
    clear hbel hrow hlt
    go_wp2_with fail
    refine (Chk.rseal_ok _ c9 _ w9 HRL.out R9.out hcap.out).mono ?_; rintro e w10 ⟨b10, c10, rfl, hr10, hl10, hb10⟩
    have B10 := Lib.hid (B9.out.trans (hb10.mono B9.out.size)); have R10 := Lib.hid hr10; have L10 := Lib.hid hl10
    clear hr10 hl10 hb10
    go_wp2_with fail
    go_ret2
    exact ⟨b10, c10, rfl, R10.out, L10.out, B2.out.trans (B10.out.mono B2.out.size)⟩
  go_simp
  refine (N12.out w67).mono ?_; rintro e w77 ⟨rfl, b⟩
  have BA77 := Lib.hid (BA67.out.trans (b.mono BA67.out.size))
  clear b
  go_wp2_with fail
  refine hK.out _ _ (KC.out _ BA77.out) (fun hHeld => ?_)
  clear hK K
  (try simp only [Act.put, List.setIfInBounds_toArray, List.set_cons_zero, List.set_cons_succ])
  refine wpAnyH_take (i := 16) (oi := { dst := some 29, op := Go.Op.binOp Go.BinOp.add 9 (Go.Operand.tmp 27) (Go.Operand.tmp 28) 9, type := 9, pos := "ref.go:69", after := #[{ on := 14, ground := Go.Ground.data }, { on := 15, ground := Go.Ground.data }], guard := none }) (v := ?_) rfl (by kernel_rfl) (by kernel_rfl) (by kernel_rfl) (fun _ _ _ h => h) (Or.inl ⟨by rfl, ?_⟩) (by assumption) ?_
  rotate_left 1
  focus ((intro wS hSw; (try dsimp only at hSw); go_simp) <;> (try with_reducible rfl))
  simp only [Act.put, List.setIfInBounds_toArray, List.set_cons_zero, List.set_cons_succ]
  refine wpAnyH_take (i := 17) (oi := { dst := some 30, op := Go.Op.binOp Go.BinOp.add 9 (Go.Operand.tmp 29) (Go.Operand.const (Go.Value.string { data := #[32, 32, 32, 32, 32, 32, 32, 32] })) 9, type := 9, pos := "ref.go:69", after := #[{ on := 16, ground := Go.Ground.data }], guard := none }) (v := ?_) rfl (by kernel_rfl) (by kernel_rfl) (by kernel_rfl) (fun _ _ _ h => h) (Or.inl ⟨by rfl, ?_⟩) (by assumption) ?_
  rotate_left 1
  focus ((intro wS hSw; (try dsimp only at hSw); go_simp) <;> (try with_reducible rfl))
  simp only [Act.put, List.setIfInBounds_toArray, List.set_cons_zero, List.set_cons_succ]
  refine wpAnyH_ready (rs := [20, 25]) (by kernel_rfl) (by simp) ?_
  refine AllReadyH.cons (o := { dst := some 33, op := Go.Op.buildSlice 24 1 #[(0, Go.Operand.tmp 32)], type := 24, pos := "ref.go:69", after := #[{ on := 19, ground := Go.Ground.data }], guard := none }) rfl (fun K hK => ?_) ?_
  · skip
    go_simp
    obtain ⟨w78, hw78⟩ := named (w77.alloc (.cells #[.int .u8 T] 5 (0, 0)))
    rw [← hw78.out]
    have b78 : Below w77.heap.size w77 w78 := by rw [hw78.out]; exact (Below.refl _ _).alloc (Nat.le_refl _) _
    have BA78 := Lib.hid (BA77.out.trans (b78.mono BA77.out.size))
    have KD : Hid (∀ w', Below w78.heap.size w78 w' → (fun w' => (convert 24 9 (.slice (some ⟨w77.heap.size, 0, none⟩) 1 1)).run Tryz.prog w' = .ok (.string ST) w' ∧ w'.cell? ⟨w.heap.size, 0, none⟩ = some (.int .u8 T) ∧ w'.cell? ⟨w.heap.size, 1, none⟩ = some (.string nm) ∧ w'.cell? ⟨w.heap.size, 2, none⟩ = some (.string pf) ∧ w'.cell? ⟨w.heap.size, 3, none⟩ = some (.string lk) ∧ w'.cell? ⟨w.heap.size, 4, none⟩ = some (.int .i64 md) ∧ w'.cell? ⟨w.heap.size, 5, none⟩ = some (.int .i64 sz)) w') := KDL.out w77 w78 (by rw [hw78.out]) BA78.out
    clear b78
    refine hK.out _ _ (KC.out _ BA78.out) (fun hHeld => ?_)
    clear hK K
    (try simp only [Act.put, List.setIfInBounds_toArray, List.set_cons_zero, List.set_cons_succ])
    refine wpAnyH_switch (S2 := (fun w' => (convert 24 9 (.slice (some ⟨w77.heap.size, 0, none⟩) 1 1)).run Tryz.prog w' = .ok (.string ST) w' ∧ w'.cell? ⟨w.heap.size, 0, none⟩ = some (.int .u8 T) ∧ w'.cell? ⟨w.heap.size, 1, none⟩ = some (.string nm) ∧ w'.cell? ⟨w.heap.size, 2, none⟩ = some (.string pf) ∧ w'.cell? ⟨w.heap.size, 3, none⟩ = some (.string lk) ∧ w'.cell? ⟨w.heap.size, 4, none⟩ = some (.int .i64 md) ∧ w'.cell? ⟨w.heap.size, 5, none⟩ = some (.int .i64 sz))) (fun _ h => h.2) ?_
    have hHeld : ((fun w' => (convert 24 9 (.slice (some ⟨w77.heap.size, 0, none⟩) 1 1)).run Tryz.prog w' = .ok (.string ST) w' ∧ w'.cell? ⟨w.heap.size, 0, none⟩ = some (.int .u8 T) ∧ w'.cell? ⟨w.heap.size, 1, none⟩ = some (.string nm) ∧ w'.cell? ⟨w.heap.size, 2, none⟩ = some (.string pf) ∧ w'.cell? ⟨w.heap.size, 3, none⟩ = some (.string lk) ∧ w'.cell? ⟨w.heap.size, 4, none⟩ = some (.int .i64 md) ∧ w'.cell? ⟨w.heap.size, 5, none⟩ = some (.int .i64 sz))) w78 := KD.out _ (Below.refl _ _)
    refine wpAnyH_take (i := 21) (oi := { dst := some 34, op := Go.Op.convert 24 9 (Go.Operand.tmp 33), type := 9, pos := "ref.go:69", after := #[{ on := 20, ground := Go.Ground.data }], guard := none }) (v := ?_) rfl (by kernel_rfl) (by kernel_rfl) (by kernel_rfl) (fun _ _ _ h => h) (Or.inl ⟨by rfl, ?_⟩) (by assumption) ?_
    rotate_left 1
    focus ((intro wS hSw; (try dsimp only at hSw); go_simp) <;> (try with_reducible rfl))
    simp only [Act.put, List.setIfInBounds_toArray, List.set_cons_zero, List.set_cons_succ]
    refine wpAnyH_take (i := 22) (oi := { dst := some 35, op := Go.Op.binOp Go.BinOp.add 9 (Go.Operand.tmp 30) (Go.Operand.tmp 34) 9, type := 9, pos := "ref.go:69", after := #[{ on := 17, ground := Go.Ground.data }, { on := 21, ground := Go.Ground.data }], guard := none }) (v := ?_) rfl (by kernel_rfl) (by kernel_rfl) (by kernel_rfl) (fun _ _ _ h => h) (Or.inl ⟨by rfl, ?_⟩) (by assumption) ?_
    rotate_left 1
    focus ((intro wS hSw; (try dsimp only at hSw); go_simp) <;> (try with_reducible rfl))
    simp only [Act.put, List.setIfInBounds_toArray, List.set_cons_zero, List.set_cons_succ]
    refine wpAnyH_ready (rs := [25]) (by kernel_rfl) (by simp) ?_
    refine AllReadyH.cons (o := { dst := some 38, op := Go.Op.call { callee := Go.Callee.value (Go.Operand.func 66), args := #[Go.Operand.tmp 37, Go.Operand.const (Go.Value.int Go.IntKind.i64 100)], argTypes := #[9, 3] }, type := 9, pos := "ref.go:69", after := #[{ on := 24, ground := Go.Ground.data }, { on := 15, ground := Go.Ground.chain }], guard := none }) rfl (fun K hK => ?_) AllReadyH.nil
    go_simp
    refine (N4.out w78).mono ?_; rintro e w79 ⟨rfl, b⟩
    have BA79 := Lib.hid (BA78.out.trans (b.mono BA78.out.size))
    have BX79 := Lib.hid b
    clear b
    go_wp2_with fail
    refine hK.out _ _ (KD.out _ BX79.out) (fun hHeld => ?_)
    clear hK K
    (try simp only [Act.put, List.setIfInBounds_toArray, List.set_cons_zero, List.set_cons_succ])
    refine wpAnyH_take (i := 26) (oi := { dst := some 39, op := Go.Op.binOp Go.BinOp.add 9 (Go.Operand.tmp 35) (Go.Operand.tmp 38) 9, type := 9, pos := "ref.go:69", after := #[{ on := 22, ground := Go.Ground.data }, { on := 25, ground := Go.Ground.data }], guard := none }) (v := ?_) rfl (by kernel_rfl) (by kernel_rfl) (by kernel_rfl) (fun _ _ _ h => h) (Or.inl ⟨by rfl, ?_⟩) (by assumption) ?_
    rotate_left 1
    focus ((intro wS hSw; (try dsimp only at hSw); go_simp) <;> (try with_reducible rfl))
    simp only [Act.put, List.setIfInBounds_toArray, List.set_cons_zero, List.set_cons_succ]
    refine wpAnyH_take (i := 27) (oi := { dst := some 40, op := Go.Op.binOp Go.BinOp.add 9 (Go.Operand.tmp 39) (Go.Operand.const (Go.Value.string { data := #[117, 115, 116, 97, 114, 0, 48, 48] })) 9, type := 9, pos := "ref.go:69", after := #[{ on := 26, ground := Go.Ground.data }], guard := none }) (v := ?_) rfl (by kernel_rfl) (by kernel_rfl) (by kernel_rfl) (fun _ _ _ h => h) (Or.inl ⟨by rfl, ?_⟩) (by assumption) ?_
    rotate_left 1
    focus ((intro wS hSw; (try dsimp only at hSw); go_simp) <;> (try with_reducible rfl))
    simp only [Act.put, List.setIfInBounds_toArray, List.set_cons_zero, List.set_cons_succ]
    refine wpAnyH_ready (rs := [28]) (by kernel_rfl) (by simp) ?_
    refine AllReadyH.cons (o := { dst := some 41, op := Go.Op.call { callee := Go.Callee.value (Go.Operand.func 66), args := #[Go.Operand.const (Go.Value.string { data := #[] }), Go.Operand.const (Go.Value.int Go.IntKind.i64 32)], argTypes := #[9, 3] }, type := 9, pos := "ref.go:69", after := #[{ on := 25, ground := Go.Ground.chain }], guard := none }) rfl (fun K hK => ?_) AllReadyH.nil
    go_simp
    refine (N32.out w79).mono ?_; rintro e w80 ⟨rfl, b⟩
    have BA80 := Lib.hid (BA79.out.trans (b.mono BA79.out.size))
    have BX80 := Lib.hid (BX79.out.trans (b.mono BX79.out.size))
    clear b
    go_wp2_with fail
    refine hK.out _ _ (KD.out _ BX80.out) (fun hHeld => ?_)
    clear hK K
    (try simp only [Act.put, List.setIfInBounds_toArray, List.set_cons_zero, List.set_cons_succ])
    refine wpAnyH_take (i := 29) (oi := { dst := some 42, op := Go.Op.binOp Go.BinOp.add 9 (Go.Operand.tmp 40) (Go.Operand.tmp 41) 9, type := 9, pos := "ref.go:69", after := #[{ on := 27, ground := Go.Ground.data }, { on := 28, ground := Go.Ground.data }], guard := none }) (v := ?_) rfl (by kernel_rfl) (by kernel_rfl) (by kernel_rfl) (fun _ _ _ h => h) (Or.inl ⟨by rfl, ?_⟩) (by assumption) ?_
    rotate_left 1
    focus ((intro wS hSw; (try dsimp only at hSw); go_simp) <;> (try with_reducible rfl))
    simp only [Act.put, List.setIfInBounds_toArray, List.set_cons_zero, List.set_cons_succ]
    refine wpAnyH_ready (rs := [30]) (by kernel_rfl) (by simp) ?_
    refine AllReadyH.cons (o := { dst := some 43, op := Go.Op.call { callee := Go.Callee.value (Go.Operand.func 66), args := #[Go.Operand.const (Go.Value.string { data := #[] }), Go.Operand.const (Go.Value.int Go.IntKind.i64 32)], argTypes := #[9, 3] }, type := 9, pos := "ref.go:69", after := #[{ on := 28, ground := Go.Ground.chain }], guard := none }) rfl (fun K hK => ?_) AllReadyH.nil
    go_simp
    refine (N32.out w80).mono ?_; rintro e w81 ⟨rfl, b⟩
    have BA81 := Lib.hid (BA80.out.trans (b.mono BA80.out.size))
    have BX81 := Lib.hid (BX80.out.trans (b.mono BX80.out.size))
    clear b
    go_wp2_with fail
    refine hK.out _ _ (KD.out _ BX81.out) (fun hHeld => ?_)
    clear hK K
    (try simp only [Act.put, List.setIfInBounds_toArray, List.set_cons_zero, List.set_cons_succ])
    refine wpAnyH_take (i := 31) (oi := { dst := some 44, op := Go.Op.binOp Go.BinOp.add 9 (Go.Operand.tmp 42) (Go.Operand.tmp 43) 9, type := 9, pos := "ref.go:69", after := #[{ on := 29, ground := Go.Ground.data }, { on := 30, ground := Go.Ground.data }], guard := none }) (v := ?_) rfl (by kernel_rfl) (by kernel_rfl) (by kernel_rfl) (fun _ _ _ h => h) (Or.inl ⟨by rfl, ?_⟩) (by assumption) ?_
    rotate_left 1
    focus ((intro wS hSw; (try dsimp only at hSw); go_simp) <;> (try with_reducible rfl))
    simp only [Act.put, List.setIfInBounds_toArray, List.set_cons_zero, List.set_cons_succ]
    refine wpAnyH_ready (rs := [32]) (by kernel_rfl) (by simp) ?_
    refine AllReadyH.cons (o := { dst := some 45, op := Go.Op.call { callee := Go.Callee.value (Go.Operand.func 67), args := #[Go.Operand.const (Go.Value.int Go.IntKind.i64 0), Go.Operand.const (Go.Value.int Go.IntKind.i64 8)], argTypes := #[2, 3] }, type := 9, pos := "ref.go:69", after := #[{ on := 30, ground := Go.Ground.chain }], guard := none }) rfl (fun K hK => ?_) AllReadyH.nil
    go_simp
    refine (N8.out w81).mono ?_; rintro e w82 ⟨rfl, b⟩
    have BA82 := Lib.hid (BA81.out.trans (b.mono BA81.out.size))
    have BX82 := Lib.hid (BX81.out.trans (b.mono BX81.out.size))
    clear b
    go_wp2_with fail
    refine hK.out _ _ (KD.out _ BX82.out) (fun hHeld => ?_)
    clear hK K
    (try simp only [Act.put, List.setIfInBounds_toArray, List.set_cons_zero, List.set_cons_succ])
    refine wpAnyH_take (i := 33) (oi := { dst := some 46, op := Go.Op.binOp Go.BinOp.add 9 (Go.Operand.tmp 44) (Go.Operand.tmp 45) 9, type := 9, pos := "ref.go:69", after := #[{ on := 31, ground := Go.Ground.data }, { on := 32, ground := Go.Ground.data }], guard := none }) (v := ?_) rfl (by kernel_rfl) (by kernel_rfl) (by kernel_rfl) (fun _ _ _ h => h) (Or.inl ⟨by rfl, ?_⟩) (by assumption) ?_
    rotate_left 1
    focus ((intro wS hSw; (try dsimp only at hSw); go_simp) <;> (try with_reducible rfl))
    simp only [Act.put, List.setIfInBounds_toArray, List.set_cons_zero, List.set_cons_succ]
    refine wpAnyH_ready (rs := [34]) (by kernel_rfl) (by simp) ?_
    refine AllReadyH.cons (o := { dst := some 47, op := Go.Op.call { callee := Go.Callee.value (Go.Operand.func 67), args := #[Go.Operand.const (Go.Value.int Go.IntKind.i64 0), Go.Operand.const (Go.Value.int Go.IntKind.i64 8)], argTypes := #[2, 3] }, type := 9, pos := "ref.go:69", after := #[{ on := 32, ground := Go.Ground.chain }], guard := none }) rfl (fun K hK => ?_) AllReadyH.nil
    go_simp
    refine (N8.out w82).mono ?_; rintro e w83 ⟨rfl, b⟩
    have BA83 := Lib.hid (BA82.out.trans (b.mono BA82.out.size))
    have BX83 := Lib.hid (BX82.out.trans (b.mono BX82.out.size))
    clear b
    go_wp2_with fail
    refine hK.out _ _ (KD.out _ BX83.out) (fun hHeld => ?_)
    clear hK K
    (try simp only [Act.put, List.setIfInBounds_toArray, List.set_cons_zero, List.set_cons_succ])
    refine wpAnyH_take (i := 35) (oi := { dst := some 48, op := Go.Op.binOp Go.BinOp.add 9 (Go.Operand.tmp 46) (Go.Operand.tmp 47) 9, type := 9, pos := "ref.go:69", after := #[{ on := 33, ground := Go.Ground.data }, { on := 34, ground := Go.Ground.data }], guard := none }) (v := ?_) rfl (by kernel_rfl) (by kernel_rfl) (by kernel_rfl) (fun _ _ _ h => h) (Or.inl ⟨by rfl, ?_⟩) (by assumption) ?_
    rotate_left 1
    focus ((intro wS hSw; (try dsimp only at hSw); go_simp) <;> (try with_reducible rfl))
    simp only [Act.put, List.setIfInBounds_toArray, List.set_cons_zero, List.set_cons_succ]
    refine wpAnyH_ready (rs := [38]) (by kernel_rfl) (by simp) ?_
    refine AllReadyH.cons (o := { dst := some 51, op := Go.Op.call { callee := Go.Callee.value (Go.Operand.func 66), args := #[Go.Operand.tmp 50, Go.Operand.const (Go.Value.int Go.IntKind.i64 155)], argTypes := #[9, 3] }, type := 9, pos := "ref.go:69", after := #[{ on := 37, ground := Go.Ground.data }, { on := 34, ground := Go.Ground.chain }], guard := none }) rfl (fun K hK => ?_) AllReadyH.nil
    go_simp
    refine (N5.out w83).mono ?_; rintro e w84 ⟨rfl, b⟩
    have BA84 := Lib.hid (BA83.out.trans (b.mono BA83.out.size))
    have BX84 := Lib.hid (BX83.out.trans (b.mono BX83.out.size))
    clear b
    go_wp2_with fail
    refine hK.out _ _ (KD.out _ BX84.out) (fun hHeld => ?_)
    clear hK K
    (try simp only [Act.put, List.setIfInBounds_toArray, List.set_cons_zero, List.set_cons_succ])
    refine wpAnyH_take (i := 39) (oi := { dst := some 52, op := Go.Op.binOp Go.BinOp.add 9 (Go.Operand.tmp 48) (Go.Operand.tmp 51) 9, type := 9, pos := "ref.go:69", after := #[{ on := 35, ground := Go.Ground.data }, { on := 38, ground := Go.Ground.data }], guard := none }) (v := ?_) rfl (by kernel_rfl) (by kernel_rfl) (by kernel_rfl) (fun _ _ _ h => h) (Or.inl ⟨by rfl, ?_⟩) (by assumption) ?_
    rotate_left 1
    focus ((intro wS hSw; (try dsimp only at hSw); go_simp) <;> (try with_reducible rfl))
    simp only [Act.put, List.setIfInBounds_toArray, List.set_cons_zero, List.set_cons_succ]
    refine wpAnyH_ready (rs := [40]) (by kernel_rfl) (by simp) ?_
    refine AllReadyH.cons (o := { dst := some 53, op := Go.Op.call { callee := Go.Callee.value (Go.Operand.func 66), args := #[Go.Operand.const (Go.Value.string { data := #[] }), Go.Operand.const (Go.Value.int Go.IntKind.i64 12)], argTypes := #[9, 3] }, type := 9, pos := "ref.go:69", after := #[{ on := 38, ground := Go.Ground.chain }], guard := none }) rfl (fun K hK => ?_) AllReadyH.nil
    go_simp
    refine (NX.out w84).mono ?_; rintro e w85 ⟨rfl, b⟩
    have BA85 := Lib.hid (BA84.out.trans (b.mono BA84.out.size))
    have BX85 := Lib.hid (BX84.out.trans (b.mono BX84.out.size))
    clear b
    go_wp2_with fail
    refine hK.out _ _ (KD.out _ BX85.out) (fun hHeld => ?_)
    clear hK K
    (try simp only [Act.put, List.setIfInBounds_toArray, List.set_cons_zero, List.set_cons_succ])
    refine wpAnyH_take (i := 41) (oi := { dst := some 54, op := Go.Op.binOp Go.BinOp.add 9 (Go.Operand.tmp 52) (Go.Operand.tmp 53) 9, type := 9, pos := "ref.go:69", after := #[{ on := 39, ground := Go.Ground.data }, { on := 40, ground := Go.Ground.data }], guard := none }) (v := ?_) rfl (by kernel_rfl) (by kernel_rfl) (by kernel_rfl) (fun _ _ _ h => h) (Or.inl ⟨by rfl, ?_⟩) (by assumption) ?_
    rotate_left 1
    focus ((intro wS hSw; (try dsimp only at hSw); go_simp) <;> (try with_reducible rfl))
    simp only [Act.put, List.setIfInBounds_toArray, List.set_cons_zero, List.set_cons_succ]
    refine wpAnyH_take (i := 42) (oi := { dst := some 5, op := Go.Op.assign (Go.Operand.tmp 54), type := 9, pos := "ref.go:69", after := #[{ on := 41, ground := Go.Ground.data }, { on := 40, ground := Go.Ground.chain }, { on := 0, ground := Go.Ground.phase }, { on := 1, ground := Go.Ground.phase }, { on := 2, ground := Go.Ground.phase }, { on := 3, ground := Go.Ground.phase }, { on := 4, ground := Go.Ground.phase }, { on := 5, ground := Go.Ground.phase }, { on := 6, ground := Go.Ground.phase }, { on := 7, ground := Go.Ground.phase }, { on := 8, ground := Go.Ground.phase }, { on := 9, ground := Go.Ground.phase }, { on := 10, ground := Go.Ground.phase }, { on := 11, ground := Go.Ground.phase }, { on := 12, ground := Go.Ground.phase }, { on := 13, ground := Go.Ground.phase }, { on := 14, ground := Go.Ground.phase }, { on := 15, ground := Go.Ground.phase }, { on := 16, ground := Go.Ground.phase }, { on := 17, ground := Go.Ground.phase }, { on := 18, ground := Go.Ground.phase }, { on := 19, ground := Go.Ground.phase }, { on := 20, ground := Go.Ground.phase }, { on := 21, ground := Go.Ground.phase }, { on := 22, ground := Go.Ground.phase }, { on := 23, ground := Go.Ground.phase }, { on := 24, ground := Go.Ground.phase }, { on := 25, ground := Go.Ground.phase }, { on := 26, ground := Go.Ground.phase }, { on := 27, ground := Go.Ground.phase }, { on := 28, ground := Go.Ground.phase }, { on := 29, ground := Go.Ground.phase }, { on := 30, ground := Go.Ground.phase }, { on := 31, ground := Go.Ground.phase }, { on := 32, ground := Go.Ground.phase }, { on := 33, ground := Go.Ground.phase }, { on := 34, ground := Go.Ground.phase }, { on := 35, ground := Go.Ground.phase }, { on := 36, ground := Go.Ground.phase }, { on := 37, ground := Go.Ground.phase }, { on := 38, ground := Go.Ground.phase }, { on := 39, ground := Go.Ground.phase }, { on := 40, ground := Go.Ground.phase }, { on := 41, ground := Go.Ground.phase }], guard := none }) (v := ?_) rfl (by kernel_rfl) (by kernel_rfl) (by kernel_rfl) (fun _ _ _ h => h) (Or.inl ⟨by rfl, ?_⟩) (by assumption) ?_
    rotate_left 1
    focus ((intro wS hSw; (try dsimp only at hSw); go_simp) <;> (try with_reducible rfl))
    simp only [Act.put, List.setIfInBounds_toArray, List.set_cons_zero, List.set_cons_succ]
    refine wpAnyH_done (by kernel_rfl) ?_ _
    obtain ⟨S9, hS9⟩ := named (((((((((((((((s1 ++ o1) ++ o8) ++ o8) ++ o3) ++ o12) ++ { data := #[32, 32, 32, 32, 32, 32, 32, 32] }) ++ ST) ++ s4) ++ { data := #[117, 115, 116, 97, 114, 0, 48, 48] }) ++ x32) ++ x32) ++ o8) ++ o8) ++ s5) ++ xx)
    rw [← hS9.out]
    have hz : numsOf S9 = rawH T nm pf lk md sz := hS9.out ▸ HBIG.out
    have hsz : S9.size = 512 := by rw [← numsOf_length, hz]; exact HRL.out
    obtain ⟨c9, w9, hrun, hrow, hbel, hlt⟩ := run_bytes_of (P := Tryz.prog) w85 Tryz.underlying9 Tryz.underlying24 Tryz.underlying5 S9
    rw [hsz] at hrun
    rw [hz] at hrow
    have hcap : Hid (512 ≤ c9) := CAP.out _ _ _ _ hsz hrun
    have B9 := Lib.hid (BA85.out.trans (hbel.mono BA85.out.size)); have R9 := Lib.hid (BytesIn.of_row hrow hlt)
    clear hbel hrow hlt
    go_wp2_with fail
    refine (Chk.rseal_ok _ c9 _ w9 HRL.out R9.out hcap.out).mono ?_; rintro e w10 ⟨b10, c10, rfl, hr10, hl10, hb10⟩
    have B10 := Lib.hid (B9.out.trans (hb10.mono B9.out.size)); have R10 := Lib.hid hr10; have L10 := Lib.hid hl10
    clear hr10 hl10 hb10
    go_wp2_with fail
    go_ret2
    exact ⟨b10, c10, rfl, R10.out, L10.out, B2.out.trans (B10.out.mono B2.out.size)⟩
  refine AllReadyH.cons (o := { dst := some 38, op := Go.Op.call { callee := Go.Callee.value (Go.Operand.func 66), args := #[Go.Operand.tmp 37, Go.Operand.const (Go.Value.int Go.IntKind.i64 100)], argTypes := #[9, 3] }, type := 9, pos := "ref.go:69", after := #[{ on := 24, ground := Go.Ground.data }, { on := 15, ground := Go.Ground.chain }], guard := none }) rfl (fun K hK => ?_) AllReadyH.nil
  go_simp
  refine (N4.out w77).mono ?_; rintro e w86 ⟨rfl, b⟩
  have BA86 := Lib.hid (BA77.out.trans (b.mono BA77.out.size))
  clear b
  go_wp2_with fail
  refine hK.out _ _ (KC.out _ BA86.out) (fun hHeld => ?_)
  clear hK K
  (try simp only [Act.put, List.setIfInBounds_toArray, List.set_cons_zero, List.set_cons_succ])
  refine wpAnyH_ready (rs := [20, 28]) (by kernel_rfl) (by simp) ?_
  refine AllReadyH.cons (o := { dst := some 33, op := Go.Op.buildSlice 24 1 #[(0, Go.Operand.tmp 32)], type := 24, pos := "ref.go:69", after := #[{ on := 19, ground := Go.Ground.data }], guard := none }) rfl (fun K hK => ?_) ?_
  · skip
    go_simp
    obtain ⟨w87, hw87⟩ := named (w86.alloc (.cells #[.int .u8 T] 5 (0, 0)))
    rw [← hw87.out]
    have b87 : Below w86.heap.size w86 w87 := by rw [hw87.out]; exact (Below.refl _ _).alloc (Nat.le_refl _) _
    have BA87 := Lib.hid (BA86.out.trans (b87.mono BA86.out.size))
    have KD : Hid (∀ w', Below w87.heap.size w87 w' → (fun w' => (convert 24 9 (.slice (some ⟨w86.heap.size, 0, none⟩) 1 1)).run Tryz.prog w' = .ok (.string ST) w' ∧ w'.cell? ⟨w.heap.size, 0, none⟩ = some (.int .u8 T) ∧ w'.cell? ⟨w.heap.size, 1, none⟩ = some (.string nm) ∧ w'.cell? ⟨w.heap.size, 2, none⟩ = some (.string pf) ∧ w'.cell? ⟨w.heap.size, 3, none⟩ = some (.string lk) ∧ w'.cell? ⟨w.heap.size, 4, none⟩ = some (.int .i64 md) ∧ w'.cell? ⟨w.heap.size, 5, none⟩ = some (.int .i64 sz)) w') := KDL.out w86 w87 (by rw [hw87.out]) BA87.out
    clear b87
    refine hK.out _ _ (KC.out _ BA87.out) (fun hHeld => ?_)
    clear hK K
    (try simp only [Act.put, List.setIfInBounds_toArray, List.set_cons_zero, List.set_cons_succ])
    refine wpAnyH_switch (S2 := (fun w' => (convert 24 9 (.slice (some ⟨w86.heap.size, 0, none⟩) 1 1)).run Tryz.prog w' = .ok (.string ST) w' ∧ w'.cell? ⟨w.heap.size, 0, none⟩ = some (.int .u8 T) ∧ w'.cell? ⟨w.heap.size, 1, none⟩ = some (.string nm) ∧ w'.cell? ⟨w.heap.size, 2, none⟩ = some (.string pf) ∧ w'.cell? ⟨w.heap.size, 3, none⟩ = some (.string lk) ∧ w'.cell? ⟨w.heap.size, 4, none⟩ = some (.int .i64 md) ∧ w'.cell? ⟨w.heap.size, 5, none⟩ = some (.int .i64 sz))) (fun _ h => h.2) ?_
    have hHeld : ((fun w' => (convert 24 9 (.slice (some ⟨w86.heap.size, 0, none⟩) 1 1)).run Tryz.prog w' = .ok (.string ST) w' ∧ w'.cell? ⟨w.heap.size, 0, none⟩ = some (.int .u8 T) ∧ w'.cell? ⟨w.heap.size, 1, none⟩ = some (.string nm) ∧ w'.cell? ⟨w.heap.size, 2, none⟩ = some (.string pf) ∧ w'.cell? ⟨w.heap.size, 3, none⟩ = some (.string lk) ∧ w'.cell? ⟨w.heap.size, 4, none⟩ = some (.int .i64 md) ∧ w'.cell? ⟨w.heap.size, 5, none⟩ = some (.int .i64 sz))) w87 := KD.out _ (Below.refl _ _)
    refine wpAnyH_take (i := 21) (oi := { dst := some 34, op := Go.Op.convert 24 9 (Go.Operand.tmp 33), type := 9, pos := "ref.go:69", after := #[{ on := 20, ground := Go.Ground.data }], guard := none }) (v := ?_) rfl (by kernel_rfl) (by kernel_rfl) (by kernel_rfl) (fun _ _ _ h => h) (Or.inl ⟨by rfl, ?_⟩) (by assumption) ?_
    rotate_left 1
    focus ((intro wS hSw; (try dsimp only at hSw); go_simp) <;> (try with_reducible rfl))
    simp only [Act.put, List.setIfInBounds_toArray, List.set_cons_zero, List.set_cons_succ]
    refine wpAnyH_take (i := 22) (oi := { dst := some 35, op := Go.Op.binOp Go.BinOp.add 9 (Go.Operand.tmp 30) (Go.Operand.tmp 34) 9, type := 9, pos := "ref.go:69", after := #[{ on := 17, ground := Go.Ground.data }, { on := 21, ground := Go.Ground.data }], guard := none }) (v := ?_) rfl (by kernel_rfl) (by kernel_rfl) (by kernel_rfl) (fun _ _ _ h => h) (Or.inl ⟨by rfl, ?_⟩) (by assumption) ?_
    rotate_left 1
    focus ((intro wS hSw; (try dsimp only at hSw); go_simp) <;> (try with_reducible rfl))
    simp only [Act.put, List.setIfInBounds_toArray, List.set_cons_zero, List.set_cons_succ]
    refine wpAnyH_take (i := 26) (oi := { dst := some 39, op := Go.Op.binOp Go.BinOp.add 9 (Go.Operand.tmp 35) (Go.Operand.tmp 38) 9, type := 9, pos := "ref.go:69", after := #[{ on := 22, ground := Go.Ground.data }, { on := 25, ground := Go.Ground.data }], guard := none }) (v := ?_) rfl (by kernel_rfl) (by kernel_rfl) (by kernel_rfl) (fun _ _ _ h => h) (Or.inl ⟨by rfl, ?_⟩) (by assumption) ?_
    rotate_left 1
    focus ((intro wS hSw; (try dsimp only at hSw); go_simp) <;> (try with_reducible rfl))
    simp only [Act.put, List.setIfInBounds_toArray, List.set_cons_zero, List.set_cons_succ]
    refine wpAnyH_take (i := 27) (oi := { dst := some 40, op := Go.Op.binOp Go.BinOp.add 9 (Go.Operand.tmp 39) (Go.Operand.const (Go.Value.string { data := #[117, 115, 116, 97, 114, 0, 48, 48] })) 9, type := 9, pos := "ref.go:69", after := #[{ on := 26, ground := Go.Ground.data }], guard := none }) (v := ?_) rfl (by kernel_rfl) (by kernel_rfl) (by kernel_rfl) (fun _ _ _ h => h) (Or.inl ⟨by rfl, ?_⟩) (by assumption) ?_
    rotate_left 1
    focus ((intro wS hSw; (try dsimp only at hSw); go_simp) <;> (try with_reducible rfl))
    simp only [Act.put, List.setIfInBounds_toArray, List.set_cons_zero, List.set_cons_succ]
    refine wpAnyH_ready (rs := [28]) (by kernel_rfl) (by simp) ?_
    refine AllReadyH.cons (o := { dst := some 41, op := Go.Op.call { callee := Go.Callee.value (Go.Operand.func 66), args := #[Go.Operand.const (Go.Value.string { data := #[] }), Go.Operand.const (Go.Value.int Go.IntKind.i64 32)], argTypes := #[9, 3] }, type := 9, pos := "ref.go:69", after := #[{ on := 25, ground := Go.Ground.chain }], guard := none }) rfl (fun K hK => ?_) AllReadyH.nil
    go_simp
    refine (N32.out w87).mono ?_; rintro e w88 ⟨rfl, b⟩
    have BA88 := Lib.hid (BA87.out.trans (b.mono BA87.out.size))
    have BX88 := Lib.hid b
    clear b
    go_wp2_with fail
    refine hK.out _ _ (KD.out _ BX88.out) (fun hHeld => ?_)
    clear hK K
    (try simp only [Act.put, List.setIfInBounds_toArray, List.set_cons_zero, List.set_cons_succ])
    refine wpAnyH_take (i := 29) (oi := { dst := some 42, op := Go.Op.binOp Go.BinOp.add 9 (Go.Operand.tmp 40) (Go.Operand.tmp 41) 9, type := 9, pos := "ref.go:69", after := #[{ on := 27, ground := Go.Ground.data }, { on := 28, ground := Go.Ground.data }], guard := none }) (v := ?_) rfl (by kernel_rfl) (by kernel_rfl) (by kernel_rfl) (fun _ _ _ h => h) (Or.inl ⟨by rfl, ?_⟩) (by assumption) ?_
    rotate_left 1
    focus ((intro wS hSw; (try dsimp only at hSw); go_simp) <;> (try with_reducible rfl))
    simp only [Act.put, List.setIfInBounds_toArray, List.set_cons_zero, List.set_cons_succ]
    refine wpAnyH_ready (rs := [30]) (by kernel_rfl) (by simp) ?_
    refine AllReadyH.cons (o := { dst := some 43, op := Go.Op.call { callee := Go.Callee.value (Go.Operand.func 66), args := #[Go.Operand.const (Go.Value.string { data := #[] }), Go.Operand.const (Go.Value.int Go.IntKind.i64 32)], argTypes := #[9, 3] }, type := 9, pos := "ref.go:69", after := #[{ on := 28, ground := Go.Ground.chain }], guard := none }) rfl (fun K hK => ?_) AllReadyH.nil
    go_simp
    refine (N32.out w88).mono ?_; rintro e w89 ⟨rfl, b⟩
    have BA89 := Lib.hid (BA88.out.trans (b.mono BA88.out.size))
    have BX89 := Lib.hid (BX88.out.trans (b.mono BX88.out.size))
    clear b
    go_wp2_with fail
    refine hK.out _ _ (KD.out _ BX89.out) (fun hHeld => ?_)
    clear hK K
    (try simp only [Act.put, List.setIfInBounds_toArray, List.set_cons_zero, List.set_cons_succ])
    refine wpAnyH_take (i := 31) (oi := { dst := some 44, op := Go.Op.binOp Go.BinOp.add 9 (Go.Operand.tmp 42) (Go.Operand.tmp 43) 9, type := 9, pos := "ref.go:69", after := #[{ on := 29, ground := Go.Ground.data }, { on := 30, ground := Go.Ground.data }], guard := none }) (v := ?_) rfl (by kernel_rfl) (by kernel_rfl) (by kernel_rfl) (fun _ _ _ h => h) (Or.inl ⟨by rfl, ?_⟩) (by assumption) ?_
    rotate_left 1
    focus ((intro wS hSw; (try dsimp only at hSw); go_simp) <;> (try with_reducible rfl))
    simp only [Act.put, List.setIfInBounds_toArray, List.set_cons_zero, List.set_cons_succ]
    refine wpAnyH_ready (rs := [32]) (by kernel_rfl) (by simp) ?_
    refine AllReadyH.cons (o := { dst := some 45, op := Go.Op.call { callee := Go.Callee.value (Go.Operand.func 67), args := #[Go.Operand.const (Go.Value.int Go.IntKind.i64 0), Go.Operand.const (Go.Value.int Go.IntKind.i64 8)], argTypes := #[2, 3] }, type := 9, pos := "ref.go:69", after := #[{ on := 30, ground := Go.Ground.chain }], guard := none }) rfl (fun K hK => ?_) AllReadyH.nil
    go_simp
    refine (N8.out w89).mono ?_; rintro e w90 ⟨rfl, b⟩
    have BA90 := Lib.hid (BA89.out.trans (b.mono BA89.out.size))
    have BX90 := Lib.hid (BX89.out.trans (b.mono BX89.out.size))
    clear b
    go_wp2_with fail
    refine hK.out _ _ (KD.out _ BX90.out) (fun hHeld => ?_)
    clear hK K
    (try simp only [Act.put, List.setIfInBounds_toArray, List.set_cons_zero, List.set_cons_succ])
    refine wpAnyH_take (i := 33) (oi := { dst := some 46, op := Go.Op.binOp Go.BinOp.add 9 (Go.Operand.tmp 44) (Go.Operand.tmp 45) 9, type := 9, pos := "ref.go:69", after := #[{ on := 31, ground := Go.Ground.data }, { on := 32, ground := Go.Ground.data }], guard := none }) (v := ?_) rfl (by kernel_rfl) (by kernel_rfl) (by kernel_rfl) (fun _ _ _ h => h) (Or.inl ⟨by rfl, ?_⟩) (by assumption) ?_
    rotate_left 1
    focus ((intro wS hSw; (try dsimp only at hSw); go_simp) <;> (try with_reducible rfl))
    simp only [Act.put, List.setIfInBounds_toArray, List.set_cons_zero, List.set_cons_succ]
    refine wpAnyH_ready (rs := [34]) (by kernel_rfl) (by simp) ?_
    refine AllReadyH.cons (o := { dst := some 47, op := Go.Op.call { callee := Go.Callee.value (Go.Operand.func 67), args := #[Go.Operand.const (Go.Value.int Go.IntKind.i64 0), Go.Operand.const (Go.Value.int Go.IntKind.i64 8)], argTypes := #[2, 3] }, type := 9, pos := "ref.go:69", after := #[{ on := 32, ground := Go.Ground.chain }], guard := none }) rfl (fun K hK => ?_) AllReadyH.nil
    go_simp
    refine (N8.out w90).mono ?_; rintro e w91 ⟨rfl, b⟩
    have BA91 := Lib.hid (BA90.out.trans (b.mono BA90.out.size))
    have BX91 := Lib.hid (BX90.out.trans (b.mono BX90.out.size))
    clear b
    go_wp2_with fail
    refine hK.out _ _ (KD.out _ BX91.out) (fun hHeld => ?_)
    clear hK K
    (try simp only [Act.put, List.setIfInBounds_toArray, List.set_cons_zero, List.set_cons_succ])
    refine wpAnyH_take (i := 35) (oi := { dst := some 48, op := Go.Op.binOp Go.BinOp.add 9 (Go.Operand.tmp 46) (Go.Operand.tmp 47) 9, type := 9, pos := "ref.go:69", after := #[{ on := 33, ground := Go.Ground.data }, { on := 34, ground := Go.Ground.data }], guard := none }) (v := ?_) rfl (by kernel_rfl) (by kernel_rfl) (by kernel_rfl) (fun _ _ _ h => h) (Or.inl ⟨by rfl, ?_⟩) (by assumption) ?_
    rotate_left 1
    focus ((intro wS hSw; (try dsimp only at hSw); go_simp) <;> (try with_reducible rfl))
    simp only [Act.put, List.setIfInBounds_toArray, List.set_cons_zero, List.set_cons_succ]
    refine wpAnyH_ready (rs := [38]) (by kernel_rfl) (by simp) ?_
    refine AllReadyH.cons (o := { dst := some 51, op := Go.Op.call { callee := Go.Callee.value (Go.Operand.func 66), args := #[Go.Operand.tmp 50, Go.Operand.const (Go.Value.int Go.IntKind.i64 155)], argTypes := #[9, 3] }, type := 9, pos := "ref.go:69", after := #[{ on := 37, ground := Go.Ground.data }, { on := 34, ground := Go.Ground.chain }], guard := none }) rfl (fun K hK => ?_) AllReadyH.nil
    go_simp
    refine (N5.out w91).mono ?_; rintro e w92 ⟨rfl, b⟩
    have BA92 := Lib.hid (BA91.out.trans (b.mono BA91.out.size))
    have BX92 := Lib.hid (BX91.out.trans (b.mono BX91.out.size))
    clear b
    go_wp2_with fail
    refine hK.out _ _ (KD.out _ BX92.out) (fun hHeld => ?_)
    clear hK K
    (try simp only [Act.put, List.setIfInBounds_toArray, List.set_cons_zero, List.set_cons_succ])
    refine wpAnyH_take (i := 39) (oi := { dst := some 52, op := Go.Op.binOp Go.BinOp.add 9 (Go.Operand.tmp 48) (Go.Operand.tmp 51) 9, type := 9, pos := "ref.go:69", after := #[{ on := 35, ground := Go.Ground.data }, { on := 38, ground := Go.Ground.data }], guard := none }) (v := ?_) rfl (by kernel_rfl) (by kernel_rfl) (by kernel_rfl) (fun _ _ _ h => h) (Or.inl ⟨by rfl, ?_⟩) (by assumption) ?_
    rotate_left 1
    focus ((intro wS hSw; (try dsimp only at hSw); go_simp) <;> (try with_reducible rfl))
    simp only [Act.put, List.setIfInBounds_toArray, List.set_cons_zero, List.set_cons_succ]
    refine wpAnyH_ready (rs := [40]) (by kernel_rfl) (by simp) ?_
    refine AllReadyH.cons (o := { dst := some 53, op := Go.Op.call { callee := Go.Callee.value (Go.Operand.func 66), args := #[Go.Operand.const (Go.Value.string { data := #[] }), Go.Operand.const (Go.Value.int Go.IntKind.i64 12)], argTypes := #[9, 3] }, type := 9, pos := "ref.go:69", after := #[{ on := 38, ground := Go.Ground.chain }], guard := none }) rfl (fun K hK => ?_) AllReadyH.nil
    go_simp
    refine (NX.out w92).mono ?_; rintro e w93 ⟨rfl, b⟩
    have BA93 := Lib.hid (BA92.out.trans (b.mono BA92.out.size))
    have BX93 := Lib.hid (BX92.out.trans (b.mono BX92.out.size))
    clear b
    go_wp2_with fail
    refine hK.out _ _ (KD.out _ BX93.out) (fun hHeld => ?_)
    clear hK K
    (try simp only [Act.put, List.setIfInBounds_toArray, List.set_cons_zero, List.set_cons_succ])
    refine wpAnyH_take (i := 41) (oi := { dst := some 54, op := Go.Op.binOp Go.BinOp.add 9 (Go.Operand.tmp 52) (Go.Operand.tmp 53) 9, type := 9, pos := "ref.go:69", after := #[{ on := 39, ground := Go.Ground.data }, { on := 40, ground := Go.Ground.data }], guard := none }) (v := ?_) rfl (by kernel_rfl) (by kernel_rfl) (by kernel_rfl) (fun _ _ _ h => h) (Or.inl ⟨by rfl, ?_⟩) (by assumption) ?_
    rotate_left 1
    focus ((intro wS hSw; (try dsimp only at hSw); go_simp) <;> (try with_reducible rfl))
    simp only [Act.put, List.setIfInBounds_toArray, List.set_cons_zero, List.set_cons_succ]
    refine wpAnyH_take (i := 42) (oi := { dst := some 5, op := Go.Op.assign (Go.Operand.tmp 54), type := 9, pos := "ref.go:69", after := #[{ on := 41, ground := Go.Ground.data }, { on := 40, ground := Go.Ground.chain }, { on := 0, ground := Go.Ground.phase }, { on := 1, ground := Go.Ground.phase }, { on := 2, ground := Go.Ground.phase }, { on := 3, ground := Go.Ground.phase }, { on := 4, ground := Go.Ground.phase }, { on := 5, ground := Go.Ground.phase }, { on := 6, ground := Go.Ground.phase }, { on := 7, ground := Go.Ground.phase }, { on := 8, ground := Go.Ground.phase }, { on := 9, ground := Go.Ground.phase }, { on := 10, ground := Go.Ground.phase }, { on := 11, ground := Go.Ground.phase }, { on := 12, ground := Go.Ground.phase }, { on := 13, ground := Go.Ground.phase }, { on := 14, ground := Go.Ground.phase }, { on := 15, ground := Go.Ground.phase }, { on := 16, ground := Go.Ground.phase }, { on := 17, ground := Go.Ground.phase }, { on := 18, ground := Go.Ground.phase }, { on := 19, ground := Go.Ground.phase }, { on := 20, ground := Go.Ground.phase }, { on := 21, ground := Go.Ground.phase }, { on := 22, ground := Go.Ground.phase }, { on := 23, ground := Go.Ground.phase }, { on := 24, ground := Go.Ground.phase }, { on := 25, ground := Go.Ground.phase }, { on := 26, ground := Go.Ground.phase }, { on := 27, ground := Go.Ground.phase }, { on := 28, ground := Go.Ground.phase }, { on := 29, ground := Go.Ground.phase }, { on := 30, ground := Go.Ground.phase }, { on := 31, ground := Go.Ground.phase }, { on := 32, ground := Go.Ground.phase }, { on := 33, ground := Go.Ground.phase }, { on := 34, ground := Go.Ground.phase }, { on := 35, ground := Go.Ground.phase }, { on := 36, ground := Go.Ground.phase }, { on := 37, ground := Go.Ground.phase }, { on := 38, ground := Go.Ground.phase }, { on := 39, ground := Go.Ground.phase }, { on := 40, ground := Go.Ground.phase }, { on := 41, ground := Go.Ground.phase }], guard := none }) (v := ?_) rfl (by kernel_rfl) (by kernel_rfl) (by kernel_rfl) (fun _ _ _ h => h) (Or.inl ⟨by rfl, ?_⟩) (by assumption) ?_
    rotate_left 1
    focus ((intro wS hSw; (try dsimp only at hSw); go_simp) <;> (try with_reducible rfl))
    simp only [Act.put, List.setIfInBounds_toArray, List.set_cons_zero, List.set_cons_succ]
    refine wpAnyH_done (by kernel_rfl) ?_ _
    obtain ⟨S9, hS9⟩ := named (((((((((((((((s1 ++ o1) ++ o8) ++ o8) ++ o3) ++ o12) ++ { data := #[32, 32, 32, 32, 32, 32, 32, 32] }) ++ ST) ++ s4) ++ { data := #[117, 115, 116, 97, 114, 0, 48, 48] }) ++ x32) ++ x32) ++ o8) ++ o8) ++ s5) ++ xx)
    rw [← hS9.out]
    have hz : numsOf S9 = rawH T nm pf lk md sz := hS9.out ▸ HBIG.out
    have hsz : S9.size = 512 := by rw [← numsOf_length, hz]; exact HRL.out
    obtain ⟨c9, w9, hrun, hrow, hbel, hlt⟩ := run_bytes_of (P := Tryz.prog) w93 Tryz.underlying9 Tryz.underlying24 Tryz.underlying5 S9
    rw [hsz] at hrun
    rw [hz] at hrow
    have hcap : Hid (512 ≤ c9) := CAP.out _ _ _ _ hsz hrun
    have B9 := Lib.hid (BA93.out.trans (hbel.mono BA93.out.size)); have R9 := Lib.hid (BytesIn.of_row hrow hlt)
    clear hbel hrow hlt
    go_wp2_with fail
    refine (Chk.rseal_ok _ c9 _ w9 HRL.out R9.out hcap.out).mono ?_; rintro e w10 ⟨b10, c10, rfl, hr10, hl10, hb10⟩
    have B10 := Lib.hid (B9.out.trans (hb10.mono B9.out.size)); have R10 := Lib.hid hr10; have L10 := Lib.hid hl10
    clear hr10 hl10 hb10
    go_wp2_with fail
    go_ret2
    exact ⟨b10, c10, rfl, R10.out, L10.out, B2.out.trans (B10.out.mono B2.out.size)⟩
  refine AllReadyH.cons (o := { dst := some 41, op := Go.Op.call { callee := Go.Callee.value (Go.Operand.func 66), args := #[Go.Operand.const (Go.Value.string { data := #[] }), Go.Operand.const (Go.Value.int Go.IntKind.i64 32)], argTypes := #[9, 3] }, type := 9, pos := "ref.go:69", after := #[{ on := 25, ground := Go.Ground.chain }], guard := none }) rfl (fun K hK => ?_) AllReadyH.nil
  go_simp
  refine (N32.out w86).mono ?_; rintro e w94 ⟨rfl, b⟩
  have BA94 := Lib.hid (BA86.out.trans (b.mono BA86.out.size))
  clear b
  go_wp2_with fail
  refine hK.out _ _ (KC.out _ BA94.out) (fun hHeld => ?_)
  clear hK K
  (try simp only [Act.put, List.setIfInBounds_toArray, List.set_cons_zero, List.set_cons_succ])
  refine wpAnyH_ready (rs := [20, 30]) (by kernel_rfl) (by simp) ?_
  refine AllReadyH.cons (o := { dst := some 33, op := Go.Op.buildSlice 24 1 #[(0, Go.Operand.tmp 32)], type := 24, pos := "ref.go:69", after := #[{ on := 19, ground := Go.Ground.data }], guard := none }) rfl (fun K hK => ?_) ?_
  · skip
    go_simp
    obtain ⟨w95, hw95⟩ := named (w94.alloc (.cells #[.int .u8 T] 5 (0, 0)))
    rw [← hw95.out]
    have b95 : Below w94.heap.size w94 w95 := by rw [hw95.out]; exact (Below.refl _ _).alloc (Nat.le_refl _) _
    have BA95 := Lib.hid (BA94.out.trans (b95.mono BA94.out.size))
    have KD : Hid (∀ w', Below w95.heap.size w95 w' → (fun w' => (convert 24 9 (.slice (some ⟨w94.heap.size, 0, none⟩) 1 1)).run Tryz.prog w' = .ok (.string ST) w' ∧ w'.cell? ⟨w.heap.size, 0, none⟩ = some (.int .u8 T) ∧ w'.cell? ⟨w.heap.size, 1, none⟩ = some (.string nm) ∧ w'.cell? ⟨w.heap.size, 2, none⟩ = some (.string pf) ∧ w'.cell? ⟨w.heap.size, 3, none⟩ = some (.string lk) ∧ w'.cell? ⟨w.heap.size, 4, none⟩ = some (.int .i64 md) ∧ w'.cell? ⟨w.heap.size, 5, none⟩ = some (.int .i64 sz)) w') := KDL.out w94 w95 (by rw [hw95.out]) BA95.out
    clear b95
    refine hK.out _ _ (KC.out _ BA95.out) (fun hHeld => ?_)
    clear hK K
    (try simp only [Act.put, List.setIfInBounds_toArray, List.set_cons_zero, List.set_cons_succ])
    refine wpAnyH_switch (S2 := (fun w' => (convert 24 9 (.slice (some ⟨w94.heap.size, 0, none⟩) 1 1)).run Tryz.prog w' = .ok (.string ST) w' ∧ w'.cell? ⟨w.heap.size, 0, none⟩ = some (.int .u8 T) ∧ w'.cell? ⟨w.heap.size, 1, none⟩ = some (.string nm) ∧ w'.cell? ⟨w.heap.size, 2, none⟩ = some (.string pf) ∧ w'.cell? ⟨w.heap.size, 3, none⟩ = some (.string lk) ∧ w'.cell? ⟨w.heap.size, 4, none⟩ = some (.int .i64 md) ∧ w'.cell? ⟨w.heap.size, 5, none⟩ = some (.int .i64 sz))) (fun _ h => h.2) ?_
    have hHeld : ((fun w' => (convert 24 9 (.slice (some ⟨w94.heap.size, 0, none⟩) 1 1)).run Tryz.prog w' = .ok (.string ST) w' ∧ w'.cell? ⟨w.heap.size, 0, none⟩ = some (.int .u8 T) ∧ w'.cell? ⟨w.heap.size, 1, none⟩ = some (.string nm) ∧ w'.cell? ⟨w.heap.size, 2, none⟩ = some (.string pf) ∧ w'.cell? ⟨w.heap.size, 3, none⟩ = some (.string lk) ∧ w'.cell? ⟨w.heap.size, 4, none⟩ = some (.int .i64 md) ∧ w'.cell? ⟨w.heap.size, 5, none⟩ = some (.int .i64 sz))) w95 := KD.out _ (Below.refl _ _)
    refine wpAnyH_take (i := 21) (oi := { dst := some 34, op := Go.Op.convert 24 9 (Go.Operand.tmp 33), type := 9, pos := "ref.go:69", after := #[{ on := 20, ground := Go.Ground.data }], guard := none }) (v := ?_) rfl (by kernel_rfl) (by kernel_rfl) (by kernel_rfl) (fun _ _ _ h => h) (Or.inl ⟨by rfl, ?_⟩) (by assumption) ?_
    rotate_left 1
    focus ((intro wS hSw; (try dsimp only at hSw); go_simp) <;> (try with_reducible rfl))
    simp only [Act.put, List.setIfInBounds_toArray, List.set_cons_zero, List.set_cons_succ]
    refine wpAnyH_take (i := 22) (oi := { dst := some 35, op := Go.Op.binOp Go.BinOp.add 9 (Go.Operand.tmp 30) (Go.Operand.tmp 34) 9, type := 9, pos := "ref.go:69", after := #[{ on := 17, ground := Go.Ground.data }, { on := 21, ground := Go.Ground.data }], guard := none }) (v := ?_) rfl (by kernel_rfl) (by kernel_rfl) (by kernel_rfl) (fun _ _ _ h => h) (Or.inl ⟨by rfl, ?_⟩) (by assumption) ?_
    rotate_left 1
    focus ((intro wS hSw; (try dsimp only at hSw); go_simp) <;> (try with_reducible rfl))
    simp only [Act.put, List.setIfInBounds_toArray, List.set_cons_zero, List.set_cons_succ]
    refine wpAnyH_take (i := 26) (oi := { dst := some 39, op := Go.Op.binOp Go.BinOp.add 9 (Go.Operand.tmp 35) (Go.Operand.tmp 38) 9, type := 9, pos := "ref.go:69", after := #[{ on := 22, ground := Go.Ground.data }, { on := 25, ground := Go.Ground.data }], guard := none }) (v := ?_) rfl (by kernel_rfl) (by kernel_rfl) (by kernel_rfl) (fun _ _ _ h => h) (Or.inl ⟨by rfl, ?_⟩) (by assumption) ?_
    rotate_left 1
    focus ((intro wS hSw; (try dsimp only at hSw); go_simp) <;> (try with_reducible rfl))
    simp only [Act.put, List.setIfInBounds_toArray, List.set_cons_zero, List.set_cons_succ]
    refine wpAnyH_take (i := 27) (oi := { dst := some 40, op := Go.Op.binOp Go.BinOp.add 9 (Go.Operand.tmp 39) (Go.Operand.const (Go.Value.string { data := #[117, 115, 116, 97, 114, 0, 48, 48] })) 9, type := 9, pos := "ref.go:69", after := #[{ on := 26, ground := Go.Ground.data }], guard := none }) (v := ?_) rfl (by kernel_rfl) (by kernel_rfl) (by kernel_rfl) (fun _ _ _ h => h) (Or.inl ⟨by rfl, ?_⟩) (by assumption) ?_
    rotate_left 1
    focus ((intro wS hSw; (try dsimp only at hSw); go_simp) <;> (try with_reducible rfl))
    simp only [Act.put, List.setIfInBounds_toArray, List.set_cons_zero, List.set_cons_succ]
    refine wpAnyH_take (i := 29) (oi := { dst := some 42, op := Go.Op.binOp Go.BinOp.add 9 (Go.Operand.tmp 40) (Go.Operand.tmp 41) 9, type := 9, pos := "ref.go:69", after := #[{ on := 27, ground := Go.Ground.data }, { on := 28, ground := Go.Ground.data }], guard := none }) (v := ?_) rfl (by kernel_rfl) (by kernel_rfl) (by kernel_rfl) (fun _ _ _ h => h) (Or.inl ⟨by rfl, ?_⟩) (by assumption) ?_
    rotate_left 1
    focus ((intro wS hSw; (try dsimp only at hSw); go_simp) <;> (try with_reducible rfl))
    simp only [Act.put, List.setIfInBounds_toArray, List.set_cons_zero, List.set_cons_succ]
    refine wpAnyH_ready (rs := [30]) (by kernel_rfl) (by simp) ?_
    refine AllReadyH.cons (o := { dst := some 43, op := Go.Op.call { callee := Go.Callee.value (Go.Operand.func 66), args := #[Go.Operand.const (Go.Value.string { data := #[] }), Go.Operand.const (Go.Value.int Go.IntKind.i64 32)], argTypes := #[9, 3] }, type := 9, pos := "ref.go:69", after := #[{ on := 28, ground := Go.Ground.chain }], guard := none }) rfl (fun K hK => ?_) AllReadyH.nil
    go_simp
    refine (N32.out w95).mono ?_; rintro e w96 ⟨rfl, b⟩
    have BA96 := Lib.hid (BA95.out.trans (b.mono BA95.out.size))
    have BX96 := Lib.hid b
    clear b
    go_wp2_with fail
    refine hK.out _ _ (KD.out _ BX96.out) (fun hHeld => ?_)
    clear hK K
    (try simp only [Act.put, List.setIfInBounds_toArray, List.set_cons_zero, List.set_cons_succ])
    refine wpAnyH_take (i := 31) (oi := { dst := some 44, op := Go.Op.binOp Go.BinOp.add 9 (Go.Operand.tmp 42) (Go.Operand.tmp 43) 9, type := 9, pos := "ref.go:69", after := #[{ on := 29, ground := Go.Ground.data }, { on := 30, ground := Go.Ground.data }], guard := none }) (v := ?_) rfl (by kernel_rfl) (by kernel_rfl) (by kernel_rfl) (fun _ _ _ h => h) (Or.inl ⟨by rfl, ?_⟩) (by assumption) ?_
    rotate_left 1
    focus ((intro wS hSw; (try dsimp only at hSw); go_simp) <;> (try with_reducible rfl))
    simp only [Act.put, List.setIfInBounds_toArray, List.set_cons_zero, List.set_cons_succ]
    refine wpAnyH_ready (rs := [32]) (by kernel_rfl) (by simp) ?_
    refine AllReadyH.cons (o := { dst := some 45, op := Go.Op.call { callee := Go.Callee.value (Go.Operand.func 67), args := #[Go.Operand.const (Go.Value.int Go.IntKind.i64 0), Go.Operand.const (Go.Value.int Go.IntKind.i64 8)], argTypes := #[2, 3] }, type := 9, pos := "ref.go:69", after := #[{ on := 30, ground := Go.Ground.chain }], guard := none }) rfl (fun K hK => ?_) AllReadyH.nil
    go_simp
    refine (N8.out w96).mono ?_; rintro e w97 ⟨rfl, b⟩
    have BA97 := Lib.hid (BA96.out.trans (b.mono BA96.out.size))
    have BX97 := Lib.hid (BX96.out.trans (b.mono BX96.out.size))
    clear b
    go_wp2_with fail
    refine hK.out _ _ (KD.out _ BX97.out) (fun hHeld => ?_)
    clear hK K
    (try simp only [Act.put, List.setIfInBounds_toArray, List.set_cons_zero, List.set_cons_succ])
    refine wpAnyH_take (i := 33) (oi := { dst := some 46, op := Go.Op.binOp Go.BinOp.add 9 (Go.Operand.tmp 44) (Go.Operand.tmp 45) 9, type := 9, pos := "ref.go:69", after := #[{ on := 31, ground := Go.Ground.data }, { on := 32, ground := Go.Ground.data }], guard := none }) (v := ?_) rfl (by kernel_rfl) (by kernel_rfl) (by kernel_rfl) (fun _ _ _ h => h) (Or.inl ⟨by rfl, ?_⟩) (by assumption) ?_
    rotate_left 1
    focus ((intro wS hSw; (try dsimp only at hSw); go_simp) <;> (try with_reducible rfl))
    simp only [Act.put, List.setIfInBounds_toArray, List.set_cons_zero, List.set_cons_succ]
    refine wpAnyH_ready (rs := [34]) (by kernel_rfl) (by simp) ?_
    refine AllReadyH.cons (o := { dst := some 47, op := Go.Op.call { callee := Go.Callee.value (Go.Operand.func 67), args := #[Go.Operand.const (Go.Value.int Go.IntKind.i64 0), Go.Operand.const (Go.Value.int Go.IntKind.i64 8)], argTypes := #[2, 3] }, type := 9, pos := "ref.go:69", after := #[{ on := 32, ground := Go.Ground.chain }], guard := none }) rfl (fun K hK => ?_) AllReadyH.nil
    go_simp
    refine (N8.out w97).mono ?_; rintro e w98 ⟨rfl, b⟩
    have BA98 := Lib.hid (BA97.out.trans (b.mono BA97.out.size))
    have BX98 := Lib.hid (BX97.out.trans (b.mono BX97.out.size))
    clear b
    go_wp2_with fail
    refine hK.out _ _ (KD.out _ BX98.out) (fun hHeld => ?_)
    clear hK K
    (try simp only [Act.put, List.setIfInBounds_toArray, List.set_cons_zero, List.set_cons_succ])
    refine wpAnyH_take (i := 35) (oi := { dst := some 48, op := Go.Op.binOp Go.BinOp.add 9 (Go.Operand.tmp 46) (Go.Operand.tmp 47) 9, type := 9, pos := "ref.go:69", after := #[{ on := 33, ground := Go.Ground.data }, { on := 34, ground := Go.Ground.data }], guard := none }) (v := ?_) rfl (by kernel_rfl) (by kernel_rfl) (by kernel_rfl) (fun _ _ _ h => h) (Or.inl ⟨by rfl, ?_⟩) (by assumption) ?_
    rotate_left 1
    focus ((intro wS hSw; (try dsimp only at hSw); go_simp) <;> (try with_reducible rfl))
    simp only [Act.put, List.setIfInBounds_toArray, List.set_cons_zero, List.set_cons_succ]
    refine wpAnyH_ready (rs := [38]) (by kernel_rfl) (by simp) ?_
    refine AllReadyH.cons (o := { dst := some 51, op := Go.Op.call { callee := Go.Callee.value (Go.Operand.func 66), args := #[Go.Operand.tmp 50, Go.Operand.const (Go.Value.int Go.IntKind.i64 155)], argTypes := #[9, 3] }, type := 9, pos := "ref.go:69", after := #[{ on := 37, ground := Go.Ground.data }, { on := 34, ground := Go.Ground.chain }], guard := none }) rfl (fun K hK => ?_) AllReadyH.nil
    go_simp
    refine (N5.out w98).mono ?_; rintro e w99 ⟨rfl, b⟩
    have BA99 := Lib.hid (BA98.out.trans (b.mono BA98.out.size))
    have BX99 := Lib.hid (BX98.out.trans (b.mono BX98.out.size))
    clear b
    go_wp2_with fail
    refine hK.out _ _ (KD.out _ BX99.out) (fun hHeld => ?_)
    clear hK K
    (try simp only [Act.put, List.setIfInBounds_toArray, List.set_cons_zero, List.set_cons_succ])
    refine wpAnyH_take (i := 39) (oi := { dst := some 52, op := Go.Op.binOp Go.BinOp.add 9 (Go.Operand.tmp 48) (Go.Operand.tmp 51) 9, type := 9, pos := "ref.go:69", after := #[{ on := 35, ground := Go.Ground.data }, { on := 38, ground := Go.Ground.data }], guard := none }) (v := ?_) rfl (by kernel_rfl) (by kernel_rfl) (by kernel_rfl) (fun _ _ _ h => h) (Or.inl ⟨by rfl, ?_⟩) (by assumption) ?_
    rotate_left 1
    focus ((intro wS hSw; (try dsimp only at hSw); go_simp) <;> (try with_reducible rfl))
    simp only [Act.put, List.setIfInBounds_toArray, List.set_cons_zero, List.set_cons_succ]
    refine wpAnyH_ready (rs := [40]) (by kernel_rfl) (by simp) ?_
    refine AllReadyH.cons (o := { dst := some 53, op := Go.Op.call { callee := Go.Callee.value (Go.Operand.func 66), args := #[Go.Operand.const (Go.Value.string { data := #[] }), Go.Operand.const (Go.Value.int Go.IntKind.i64 12)], argTypes := #[9, 3] }, type := 9, pos := "ref.go:69", after := #[{ on := 38, ground := Go.Ground.chain }], guard := none }) rfl (fun K hK => ?_) AllReadyH.nil
    go_simp
    refine (NX.out w99).mono ?_; rintro e w100 ⟨rfl, b⟩
    have BA100 := Lib.hid (BA99.out.trans (b.mono BA99.out.size))
    have BX100 := Lib.hid (BX99.out.trans (b.mono BX99.out.size))
    clear b
    go_wp2_with fail
    refine hK.out _ _ (KD.out _ BX100.out) (fun hHeld => ?_)
    clear hK K
    (try simp only [Act.put, List.setIfInBounds_toArray, List.set_cons_zero, List.set_cons_succ])
    refine wpAnyH_take (i := 41) (oi := { dst := some 54, op := Go.Op.binOp Go.BinOp.add 9 (Go.Operand.tmp 52) (Go.Operand.tmp 53) 9, type := 9, pos := "ref.go:69", after := #[{ on := 39, ground := Go.Ground.data }, { on := 40, ground := Go.Ground.data }], guard := none }) (v := ?_) rfl (by kernel_rfl) (by kernel_rfl) (by kernel_rfl) (fun _ _ _ h => h) (Or.inl ⟨by rfl, ?_⟩) (by assumption) ?_
    rotate_left 1
    focus ((intro wS hSw; (try dsimp only at hSw); go_simp) <;> (try with_reducible rfl))
    simp only [Act.put, List.setIfInBounds_toArray, List.set_cons_zero, List.set_cons_succ]
    refine wpAnyH_take (i := 42) (oi := { dst := some 5, op := Go.Op.assign (Go.Operand.tmp 54), type := 9, pos := "ref.go:69", after := #[{ on := 41, ground := Go.Ground.data }, { on := 40, ground := Go.Ground.chain }, { on := 0, ground := Go.Ground.phase }, { on := 1, ground := Go.Ground.phase }, { on := 2, ground := Go.Ground.phase }, { on := 3, ground := Go.Ground.phase }, { on := 4, ground := Go.Ground.phase }, { on := 5, ground := Go.Ground.phase }, { on := 6, ground := Go.Ground.phase }, { on := 7, ground := Go.Ground.phase }, { on := 8, ground := Go.Ground.phase }, { on := 9, ground := Go.Ground.phase }, { on := 10, ground := Go.Ground.phase }, { on := 11, ground := Go.Ground.phase }, { on := 12, ground := Go.Ground.phase }, { on := 13, ground := Go.Ground.phase }, { on := 14, ground := Go.Ground.phase }, { on := 15, ground := Go.Ground.phase }, { on := 16, ground := Go.Ground.phase }, { on := 17, ground := Go.Ground.phase }, { on := 18, ground := Go.Ground.phase }, { on := 19, ground := Go.Ground.phase }, { on := 20, ground := Go.Ground.phase }, { on := 21, ground := Go.Ground.phase }, { on := 22, ground := Go.Ground.phase }, { on := 23, ground := Go.Ground.phase }, { on := 24, ground := Go.Ground.phase }, { on := 25, ground := Go.Ground.phase }, { on := 26, ground := Go.Ground.phase }, { on := 27, ground := Go.Ground.phase }, { on := 28, ground := Go.Ground.phase }, { on := 29, ground := Go.Ground.phase }, { on := 30, ground := Go.Ground.phase }, { on := 31, ground := Go.Ground.phase }, { on := 32, ground := Go.Ground.phase }, { on := 33, ground := Go.Ground.phase }, { on := 34, ground := Go.Ground.phase }, { on := 35, ground := Go.Ground.phase }, { on := 36, ground := Go.Ground.phase }, { on := 37, ground := Go.Ground.phase }, { on := 38, ground := Go.Ground.phase }, { on := 39, ground := Go.Ground.phase }, { on := 40, ground := Go.Ground.phase }, { on := 41, ground := Go.Ground.phase }], guard := none }) (v := ?_) rfl (by kernel_rfl) (by kernel_rfl) (by kernel_rfl) (fun _ _ _ h => h) (Or.inl ⟨by rfl, ?_⟩) (by assumption) ?_
    rotate_left 1
    focus ((intro wS hSw; (try dsimp only at hSw); go_simp) <;> (try with_reducible rfl))
    simp only [Act.put, List.setIfInBounds_toArray, List.set_cons_zero, List.set_cons_succ]
    refine wpAnyH_done (by kernel_rfl) ?_ _
    obtain ⟨S9, hS9⟩ := named (((((((((((((((s1 ++ o1) ++ o8) ++ o8) ++ o3) ++ o12) ++ { data := #[32, 32, 32, 32, 32, 32, 32, 32] }) ++ ST) ++ s4) ++ { data := #[117, 115, 116, 97, 114, 0, 48, 48] }) ++ x32) ++ x32) ++ o8) ++ o8) ++ s5) ++ xx)
    rw [← hS9.out]
    have hz : numsOf S9 = rawH T nm pf lk md sz := hS9.out ▸ HBIG.out
    have hsz : S9.size = 512 := by rw [← numsOf_length, hz]; exact HRL.out
    obtain ⟨c9, w9, hrun, hrow, hbel, hlt⟩ := run_bytes_of (P := Tryz.prog) w100 Tryz.underlying9 Tryz.underlying24 Tryz.underlying5 S9
    rw [hsz] at hrun
    rw [hz] at hrow
    have hcap : Hid (512 ≤ c9) := CAP.out _ _ _ _ hsz hrun
    have B9 := Lib.hid (BA100.out.trans (hbel.mono BA100.out.size)); have R9 := Lib.hid (BytesIn.of_row hrow hlt)
    clear hbel hrow hlt
    go_wp2_with fail
    refine (Chk.rseal_ok _ c9 _ w9 HRL.out R9.out hcap.out).mono ?_; rintro e w10 ⟨b10, c10, rfl, hr10, hl10, hb10⟩
    have B10 := Lib.hid (B9.out.trans (hb10.mono B9.out.size)); have R10 := Lib.hid hr10; have L10 := Lib.hid hl10
    clear hr10 hl10 hb10
    go_wp2_with fail
    go_ret2
    exact ⟨b10, c10, rfl, R10.out, L10.out, B2.out.trans (B10.out.mono B2.out.size)⟩
  refine AllReadyH.cons (o := { dst := some 43, op := Go.Op.call { callee := Go.Callee.value (Go.Operand.func 66), args := #[Go.Operand.const (Go.Value.string { data := #[] }), Go.Operand.const (Go.Value.int Go.IntKind.i64 32)], argTypes := #[9, 3] }, type := 9, pos := "ref.go:69", after := #[{ on := 28, ground := Go.Ground.chain }], guard := none }) rfl (fun K hK => ?_) AllReadyH.nil
  go_simp
  refine (N32.out w94).mono ?_; rintro e w101 ⟨rfl, b⟩
  have BA101 := Lib.hid (BA94.out.trans (b.mono BA94.out.size))
  clear b
  go_wp2_with fail
  refine hK.out _ _ (KC.out _ BA101.out) (fun hHeld => ?_)
  clear hK K
  (try simp only [Act.put, List.setIfInBounds_toArray, List.set_cons_zero, List.set_cons_succ])
  refine wpAnyH_ready (rs := [20, 32]) (by kernel_rfl) (by simp) ?_
  refine AllReadyH.cons (o := { dst := some 33, op := Go.Op.buildSlice 24 1 #[(0, Go.Operand.tmp 32)], type := 24, pos := "ref.go:69", after := #[{ on := 19, ground := Go.Ground.data }], guard := none }) rfl (fun K hK => ?_) ?_
  · skip
    go_simp
    obtain ⟨w102, hw102⟩ := named (w101.alloc (.cells #[.int .u8 T] 5 (0, 0)))
    rw [← hw102.out]
    have b102 : Below w101.heap.size w101 w102 := by rw [hw102.out]; exact (Below.refl _ _).alloc (Nat.le_refl _) _
    have BA102 := Lib.hid (BA101.out.trans (b102.mono BA101.out.size))
    have KD : Hid (∀ w', Below w102.heap.size w102 w' → (fun w' => (convert 24 9 (.slice (some ⟨w101.heap.size, 0, none⟩) 1 1)).run Tryz.prog w' = .ok (.string ST) w' ∧ w'.cell? ⟨w.heap.size, 0, none⟩ = some (.int .u8 T) ∧ w'.cell? ⟨w.heap.size, 1, none⟩ = some (.string nm) ∧ w'.cell? ⟨w.heap.size, 2, none⟩ = some (.string pf) ∧ w'.cell? ⟨w.heap.size, 3, none⟩ = some (.string lk) ∧ w'.cell? ⟨w.heap.size, 4, none⟩ = some (.int .i64 md) ∧ w'.cell? ⟨w.heap.size, 5, none⟩ = some (.int .i64 sz)) w') := KDL.out w101 w102 (by rw [hw102.out]) BA102.out
    clear b102
    refine hK.out _ _ (KC.out _ BA102.out) (fun hHeld => ?_)
    clear hK K
    (try simp only [Act.put, List.setIfInBounds_toArray, List.set_cons_zero, List.set_cons_succ])
    refine wpAnyH_switch (S2 := (fun w' => (convert 24 9 (.slice (some ⟨w101.heap.size, 0, none⟩) 1 1)).run Tryz.prog w' = .ok (.string ST) w' ∧ w'.cell? ⟨w.heap.size, 0, none⟩ = some (.int .u8 T) ∧ w'.cell? ⟨w.heap.size, 1, none⟩ = some (.string nm) ∧ w'.cell? ⟨w.heap.size, 2, none⟩ = some (.string pf) ∧ w'.cell? ⟨w.heap.size, 3, none⟩ = some (.string lk) ∧ w'.cell? ⟨w.heap.size, 4, none⟩ = some (.int .i64 md) ∧ w'.cell? ⟨w.heap.size, 5, none⟩ = some (.int .i64 sz))) (fun _ h => h.2) ?_
    have hHeld : ((fun w' => (convert 24 9 (.slice (some ⟨w101.heap.size, 0, none⟩) 1 1)).run Tryz.prog w' = .ok (.string ST) w' ∧ w'.cell? ⟨w.heap.size, 0, none⟩ = some (.int .u8 T) ∧ w'.cell? ⟨w.heap.size, 1, none⟩ = some (.string nm) ∧ w'.cell? ⟨w.heap.size, 2, none⟩ = some (.string pf) ∧ w'.cell? ⟨w.heap.size, 3, none⟩ = some (.string lk) ∧ w'.cell? ⟨w.heap.size, 4, none⟩ = some (.int .i64 md) ∧ w'.cell? ⟨w.heap.size, 5, none⟩ = some (.int .i64 sz))) w102 := KD.out _ (Below.refl _ _)
    refine wpAnyH_take (i := 21) (oi := { dst := some 34, op := Go.Op.convert 24 9 (Go.Operand.tmp 33), type := 9, pos := "ref.go:69", after := #[{ on := 20, ground := Go.Ground.data }], guard := none }) (v := ?_) rfl (by kernel_rfl) (by kernel_rfl) (by kernel_rfl) (fun _ _ _ h => h) (Or.inl ⟨by rfl, ?_⟩) (by assumption) ?_
    rotate_left 1
    focus ((intro wS hSw; (try dsimp only at hSw); go_simp) <;> (try with_reducible rfl))
    simp only [Act.put, List.setIfInBounds_toArray, List.set_cons_zero, List.set_cons_succ]
    refine wpAnyH_take (i := 22) (oi := { dst := some 35, op := Go.Op.binOp Go.BinOp.add 9 (Go.Operand.tmp 30) (Go.Operand.tmp 34) 9, type := 9, pos := "ref.go:69", after := #[{ on := 17, ground := Go.Ground.data }, { on := 21, ground := Go.Ground.data }], guard := none }) (v := ?_) rfl (by kernel_rfl) (by kernel_rfl) (by kernel_rfl) (fun _ _ _ h => h) (Or.inl ⟨by rfl, ?_⟩) (by assumption) ?_
    rotate_left 1
    focus ((intro wS hSw; (try dsimp only at hSw); go_simp) <;> (try with_reducible rfl))
    simp only [Act.put, List.setIfInBounds_toArray, List.set_cons_zero, List.set_cons_succ]
    refine wpAnyH_take (i := 26) (oi := { dst := some 39, op := Go.Op.binOp Go.BinOp.add 9 (Go.Operand.tmp 35) (Go.Operand.tmp 38) 9, type := 9, pos := "ref.go:69", after := #[{ on := 22, ground := Go.Ground.data }, { on := 25, ground := Go.Ground.data }], guard := none }) (v := ?_) rfl (by kernel_rfl) (by kernel_rfl) (by kernel_rfl) (fun _ _ _ h => h) (Or.inl ⟨by rfl, ?_⟩) (by assumption) ?_
    rotate_left 1
    focus ((intro wS hSw; (try dsimp only at hSw); go_simp) <;> (try with_reducible rfl))
    simp only [Act.put, List.setIfInBounds_toArray, List.set_cons_zero, List.set_cons_succ]
    refine wpAnyH_take (i := 27) (oi := { dst := some 40, op := Go.Op.binOp Go.BinOp.add 9 (Go.Operand.tmp 39) (Go.Operand.const (Go.Value.string { data := #[117, 115, 116, 97, 114, 0, 48, 48] })) 9, type := 9, pos := "ref.go:69", after := #[{ on := 26, ground := Go.Ground.data }], guard := none }) (v := ?_) rfl (by kernel_rfl) (by kernel_rfl) (by kernel_rfl) (fun _ _ _ h => h) (Or.inl ⟨by rfl, ?_⟩) (by assumption) ?_
    rotate_left 1
    focus ((intro wS hSw; (try dsimp only at hSw); go_simp) <;> (try with_reducible rfl))
    simp only [Act.put, List.setIfInBounds_toArray, List.set_cons_zero, List.set_cons_succ]
    refine wpAnyH_take (i := 29) (oi := { dst := some 42, op := Go.Op.binOp Go.BinOp.add 9 (Go.Operand.tmp 40) (Go.Operand.tmp 41) 9, type := 9, pos := "ref.go:69", after := #[{ on := 27, ground := Go.Ground.data }, { on := 28, ground := Go.Ground.data }], guard := none }) (v := ?_) rfl (by kernel_rfl) (by kernel_rfl) (by kernel_rfl) (fun _ _ _ h => h) (Or.inl ⟨by rfl, ?_⟩) (by assumption) ?_
    rotate_left 1
    focus ((intro wS hSw; (try dsimp only at hSw); go_simp) <;> (try with_reducible rfl))
    simp only [Act.put, List.setIfInBounds_toArray, List.set_cons_zero, List.set_cons_succ]
    refine wpAnyH_take (i := 31) (oi := { dst := some 44, op := Go.Op.binOp Go.BinOp.add 9 (Go.Operand.tmp 42) (Go.Operand.tmp 43) 9, type := 9, pos := "ref.go:69", after := #[{ on := 29, ground := Go.Ground.data }, { on := 30, ground := Go.Ground.data }], guard := none }) (v := ?_) rfl (by kernel_rfl) (by kernel_rfl) (by kernel_rfl) (fun _ _ _ h => h) (Or.inl ⟨by rfl, ?_⟩) (by assumption) ?_
    rotate_left 1
    focus ((intro wS hSw; (try dsimp only at hSw); go_simp) <;> (try with_reducible rfl))
    simp only [Act.put, List.setIfInBounds_toArray, List.set_cons_zero, List.set_cons_succ]
    refine wpAnyH_ready (rs := [32]) (by kernel_rfl) (by simp) ?_
    refine AllReadyH.cons (o := { dst := some 45, op := Go.Op.call { callee := Go.Callee.value (Go.Operand.func 67), args := #[Go.Operand.const (Go.Value.int Go.IntKind.i64 0), Go.Operand.const (Go.Value.int Go.IntKind.i64 8)], argTypes := #[2, 3] }, type := 9, pos := "ref.go:69", after := #[{ on := 30, ground := Go.Ground.chain }], guard := none }) rfl (fun K hK => ?_) AllReadyH.nil
    go_simp
    refine (N8.out w102).mono ?_; rintro e w103 ⟨rfl, b⟩
    have BA103 := Lib.hid (BA102.out.trans (b.mono BA102.out.size))
    have BX103 := Lib.hid b
    clear b
    go_wp2_with fail
    refine hK.out _ _ (KD.out _ BX103.out) (fun hHeld => ?_)
    clear hK K
    (try simp only [Act.put, List.setIfInBounds_toArray, List.set_cons_zero, List.set_cons_succ])
    refine wpAnyH_take (i := 33) (oi := { dst := some 46, op := Go.Op.binOp Go.BinOp.add 9 (Go.Operand.tmp 44) (Go.Operand.tmp 45) 9, type := 9, pos := "ref.go:69", after := #[{ on := 31, ground := Go.Ground.data }, { on := 32, ground := Go.Ground.data }], guard := none }) (v := ?_) rfl (by kernel_rfl) (by kernel_rfl) (by kernel_rfl) (fun _ _ _ h => h) (Or.inl ⟨by rfl, ?_⟩) (by assumption) ?_
    rotate_left 1
    focus ((intro wS hSw; (try dsimp only at hSw); go_simp) <;> (try with_reducible rfl))
    simp only [Act.put, List.setIfInBounds_toArray, List.set_cons_zero, List.set_cons_succ]
    refine wpAnyH_ready (rs := [34]) (by kernel_rfl) (by simp) ?_
    refine AllReadyH.cons (o := { dst := some 47, op := Go.Op.call { callee := Go.Callee.value (Go.Operand.func 67), args := #[Go.Operand.const (Go.Value.int Go.IntKind.i64 0), Go.Operand.const (Go.Value.int Go.IntKind.i64 8)], argTypes := #[2, 3] }, type := 9, pos := "ref.go:69", after := #[{ on := 32, ground := Go.Ground.chain }], guard := none }) rfl (fun K hK => ?_) AllReadyH.nil
    go_simp
    refine (N8.out w103).mono ?_; rintro e w104 ⟨rfl, b⟩
    have BA104 := Lib.hid (BA103.out.trans (b.mono BA103.out.size))
    have BX104 := Lib.hid (BX103.out.trans (b.mono BX103.out.size))
    clear b
    go_wp2_with fail
    refine hK.out _ _ (KD.out _ BX104.out) (fun hHeld => ?_)
    clear hK K
    (try simp only [Act.put, List.setIfInBounds_toArray, List.set_cons_zero, List.set_cons_succ])
    refine wpAnyH_take (i := 35) (oi := { dst := some 48, op := Go.Op.binOp Go.BinOp.add 9 (Go.Operand.tmp 46) (Go.Operand.tmp 47) 9, type := 9, pos := "ref.go:69", after := #[{ on := 33, ground := Go.Ground.data }, { on := 34, ground := Go.Ground.data }], guard := none }) (v := ?_) rfl (by kernel_rfl) (by kernel_rfl) (by kernel_rfl) (fun _ _ _ h => h) (Or.inl ⟨by rfl, ?_⟩) (by assumption) ?_
    rotate_left 1
    focus ((intro wS hSw; (try dsimp only at hSw); go_simp) <;> (try with_reducible rfl))
    simp only [Act.put, List.setIfInBounds_toArray, List.set_cons_zero, List.set_cons_succ]
    refine wpAnyH_ready (rs := [38]) (by kernel_rfl) (by simp) ?_
    refine AllReadyH.cons (o := { dst := some 51, op := Go.Op.call { callee := Go.Callee.value (Go.Operand.func 66), args := #[Go.Operand.tmp 50, Go.Operand.const (Go.Value.int Go.IntKind.i64 155)], argTypes := #[9, 3] }, type := 9, pos := "ref.go:69", after := #[{ on := 37, ground := Go.Ground.data }, { on := 34, ground := Go.Ground.chain }], guard := none }) rfl (fun K hK => ?_) AllReadyH.nil
    go_simp
    refine (N5.out w104).mono ?_; rintro e w105 ⟨rfl, b⟩
    have BA105 := Lib.hid (BA104.out.trans (b.mono BA104.out.size))
    have BX105 := Lib.hid (BX104.out.trans (b.mono BX104.out.size))
    clear b
    go_wp2_with fail
    refine hK.out _ _ (KD.out _ BX105.out) (fun hHeld => ?_)
    clear hK K
    (try simp only [Act.put, List.setIfInBounds_toArray, List.set_cons_zero, List.set_cons_succ])
    refine wpAnyH_take (i := 39) (oi := { dst := some 52, op := Go.Op.binOp Go.BinOp.add 9 (Go.Operand.tmp 48) (Go.Operand.tmp 51) 9, type := 9, pos := "ref.go:69", after := #[{ on := 35, ground := Go.Ground.data }, { on := 38, ground := Go.Ground.data }], guard := none }) (v := ?_) rfl (by kernel_rfl) (by kernel_rfl) (by kernel_rfl) (fun _ _ _ h => h) (Or.inl ⟨by rfl, ?_⟩) (by assumption) ?_
    rotate_left 1
    focus ((intro wS hSw; (try dsimp only at hSw); go_simp) <;> (try with_reducible rfl))
    simp only [Act.put, List.setIfInBounds_toArray, List.set_cons_zero, List.set_cons_succ]
    refine wpAnyH_ready (rs := [40]) (by kernel_rfl) (by simp) ?_
    refine AllReadyH.cons (o := { dst := some 53, op := Go.Op.call { callee := Go.Callee.value (Go.Operand.func 66), args := #[Go.Operand.const (Go.Value.string { data := #[] }), Go.Operand.const (Go.Value.int Go.IntKind.i64 12)], argTypes := #[9, 3] }, type := 9, pos := "ref.go:69", after := #[{ on := 38, ground := Go.Ground.chain }], guard := none }) rfl (fun K hK => ?_) AllReadyH.nil
    go_simp
    refine (NX.out w105).mono ?_; rintro e w106 ⟨rfl, b⟩
    have BA106 := Lib.hid (BA105.out.trans (b.mono BA105.out.size))
    have BX106 := Lib.hid (BX105.out.trans (b.mono BX105.out.size))
    clear b
    go_wp2_with fail
    refine hK.out _ _ (KD.out _ BX106.out) (fun hHeld => ?_)
    clear hK K
    (try simp only [Act.put, List.setIfInBounds_toArray, List.set_cons_zero, List.set_cons_succ])
    refine wpAnyH_take (i := 41) (oi := { dst := some 54, op := Go.Op.binOp Go.BinOp.add 9 (Go.Operand.tmp 52) (Go.Operand.tmp 53) 9, type := 9, pos := "ref.go:69", after := #[{ on := 39, ground := Go.Ground.data }, { on := 40, ground := Go.Ground.data }], guard := none }) (v := ?_) rfl (by kernel_rfl) (by kernel_rfl) (by kernel_rfl) (fun _ _ _ h => h) (Or.inl ⟨by rfl, ?_⟩) (by assumption) ?_
    rotate_left 1
    focus ((intro wS hSw; (try dsimp only at hSw); go_simp) <;> (try with_reducible rfl))
    simp only [Act.put, List.setIfInBounds_toArray, List.set_cons_zero, List.set_cons_succ]
    refine wpAnyH_take (i := 42) (oi := { dst := some 5, op := Go.Op.assign (Go.Operand.tmp 54), type := 9, pos := "ref.go:69", after := #[{ on := 41, ground := Go.Ground.data }, { on := 40, ground := Go.Ground.chain }, { on := 0, ground := Go.Ground.phase }, { on := 1, ground := Go.Ground.phase }, { on := 2, ground := Go.Ground.phase }, { on := 3, ground := Go.Ground.phase }, { on := 4, ground := Go.Ground.phase }, { on := 5, ground := Go.Ground.phase }, { on := 6, ground := Go.Ground.phase }, { on := 7, ground := Go.Ground.phase }, { on := 8, ground := Go.Ground.phase }, { on := 9, ground := Go.Ground.phase }, { on := 10, ground := Go.Ground.phase }, { on := 11, ground := Go.Ground.phase }, { on := 12, ground := Go.Ground.phase }, { on := 13, ground := Go.Ground.phase }, { on := 14, ground := Go.Ground.phase }, { on := 15, ground := Go.Ground.phase }, { on := 16, ground := Go.Ground.phase }, { on := 17, ground := Go.Ground.phase }, { on := 18, ground := Go.Ground.phase }, { on := 19, ground := Go.Ground.phase }, { on := 20, ground := Go.Ground.phase }, { on := 21, ground := Go.Ground.phase }, { on := 22, ground := Go.Ground.phase }, { on := 23, ground := Go.Ground.phase }, { on := 24, ground := Go.Ground.phase }, { on := 25, ground := Go.Ground.phase }, { on := 26, ground := Go.Ground.phase }, { on := 27, ground := Go.Ground.phase }, { on := 28, ground := Go.Ground.phase }, { on := 29, ground := Go.Ground.phase }, { on := 30, ground := Go.Ground.phase }, { on := 31, ground := Go.Ground.phase }, { on := 32, ground := Go.Ground.phase }, { on := 33, ground := Go.Ground.phase }, { on := 34, ground := Go.Ground.phase }, { on := 35, ground := Go.Ground.phase }, { on := 36, ground := Go.Ground.phase }, { on := 37, ground := Go.Ground.phase }, { on := 38, ground := Go.Ground.phase }, { on := 39, ground := Go.Ground.phase }, { on := 40, ground := Go.Ground.phase }, { on := 41, ground := Go.Ground.phase }], guard := none }) (v := ?_) rfl (by kernel_rfl) (by kernel_rfl) (by kernel_rfl) (fun _ _ _ h => h) (Or.inl ⟨by rfl, ?_⟩) (by assumption) ?_
    rotate_left 1
    focus ((intro wS hSw; (try dsimp only at hSw); go_simp) <;> (try with_reducible rfl))
    simp only [Act.put, List.setIfInBounds_toArray, List.set_cons_zero, List.set_cons_succ]
    refine wpAnyH_done (by kernel_rfl) ?_ _
    obtain ⟨S9, hS9⟩ := named (((((((((((((((s1 ++ o1) ++ o8) ++ o8) ++ o3) ++ o12) ++ { data := #[32, 32, 32, 32, 32, 32, 32, 32] }) ++ ST) ++ s4) ++ { data := #[117, 115, 116, 97, 114, 0, 48, 48] }) ++ x32) ++ x32) ++ o8) ++ o8) ++ s5) ++ xx)
    rw [← hS9.out]
    have hz : numsOf S9 = rawH T nm pf lk md sz := hS9.out ▸ HBIG.out
    have hsz : S9.size = 512 := by rw [← numsOf_length, hz]; exact HRL.out
    obtain ⟨c9, w9, hrun, hrow, hbel, hlt⟩ := run_bytes_of (P := Tryz.prog) w106 Tryz.underlying9 Tryz.underlying24 Tryz.underlying5 S9
    rw [hsz] at hrun
    rw [hz] at hrow
    have hcap : Hid (512 ≤ c9) := CAP.out _ _ _ _ hsz hrun
    have B9 := Lib.hid (BA106.out.trans (hbel.mono BA106.out.size)); have R9 := Lib.hid (BytesIn.of_row hrow hlt)
    clear hbel hrow hlt
    go_wp2_with fail
    refine (Chk.rseal_ok _ c9 _ w9 HRL.out R9.out hcap.out).mono ?_; rintro e w10 ⟨b10, c10, rfl, hr10, hl10, hb10⟩
    have B10 := Lib.hid (B9.out.trans (hb10.mono B9.out.size)); have R10 := Lib.hid hr10; have L10 := Lib.hid hl10
    clear hr10 hl10 hb10
    go_wp2_with fail
    go_ret2
    exact ⟨b10, c10, rfl, R10.out, L10.out, B2.out.trans (B10.out.mono B2.out.size)⟩
  refine AllReadyH.cons (o := { dst := some 45, op := Go.Op.call { callee := Go.Callee.value (Go.Operand.func 67), args := #[Go.Operand.const (Go.Value.int Go.IntKind.i64 0), Go.Operand.const (Go.Value.int Go.IntKind.i64 8)], argTypes := #[2, 3] }, type := 9, pos := "ref.go:69", after := #[{ on := 30, ground := Go.Ground.chain }], guard := none }) rfl (fun K hK => ?_) AllReadyH.nil
  go_simp
  refine (N8.out w101).mono ?_; rintro e w107 ⟨rfl, b⟩
  have BA107 := Lib.hid (BA101.out.trans (b.mono BA101.out.size))
  clear b
  go_wp2_with fail
  refine hK.out _ _ (KC.out _ BA107.out) (fun hHeld => ?_)
  clear hK K
  (try simp only [Act.put, List.setIfInBounds_toArray, List.set_cons_zero, List.set_cons_succ])
  refine wpAnyH_ready (rs := [20, 34]) (by kernel_rfl) (by simp) ?_
  refine AllReadyH.cons (o := { dst := some 33, op := Go.Op.buildSlice 24 1 #[(0, Go.Operand.tmp 32)], type := 24, pos := "ref.go:69", after := #[{ on := 19, ground := Go.Ground.data }], guard := none }) rfl (fun K hK => ?_) ?_
  · skip
    go_simp
    obtain ⟨w108, hw108⟩ := named (w107.alloc (.cells #[.int .u8 T] 5 (0, 0)))
    rw [← hw108.out]
    have b108 : Below w107.heap.size w107 w108 := by rw [hw108.out]; exact (Below.refl _ _).alloc (Nat.le_refl _) _
    have BA108 := Lib.hid (BA107.out.trans (b108.mono BA107.out.size))
    have KD : Hid (∀ w', Below w108.heap.size w108 w' → (fun w' => (convert 24 9 (.slice (some ⟨w107.heap.size, 0, none⟩) 1 1)).run Tryz.prog w' = .ok (.string ST) w' ∧ w'.cell? ⟨w.heap.size, 0, none⟩ = some (.int .u8 T) ∧ w'.cell? ⟨w.heap.size, 1, none⟩ = some (.string nm) ∧ w'.cell? ⟨w.heap.size, 2, none⟩ = some (.string pf) ∧ w'.cell? ⟨w.heap.size, 3, none⟩ = some (.string lk) ∧ w'.cell? ⟨w.heap.size, 4, none⟩ = some (.int .i64 md) ∧ w'.cell? ⟨w.heap.size, 5, none⟩ = some (.int .i64 sz)) w') := KDL.out w107 w108 (by rw [hw108.out]) BA108.out
    clear b108
    refine hK.out _ _ (KC.out _ BA108.out) (fun hHeld => ?_)
    clear hK K
    (try simp only [Act.put, List.setIfInBounds_toArray, List.set_cons_zero, List.set_cons_succ])
    refine wpAnyH_switch (S2 := (fun w' => (convert 24 9 (.slice (some ⟨w107.heap.size, 0, none⟩) 1 1)).run Tryz.prog w' = .ok (.string ST) w' ∧ w'.cell? ⟨w.heap.size, 0, none⟩ = some (.int .u8 T) ∧ w'.cell? ⟨w.heap.size, 1, none⟩ = some (.string nm) ∧ w'.cell? ⟨w.heap.size, 2, none⟩ = some (.string pf) ∧ w'.cell? ⟨w.heap.size, 3, none⟩ = some (.string lk) ∧ w'.cell? ⟨w.heap.size, 4, none⟩ = some (.int .i64 md) ∧ w'.cell? ⟨w.heap.size, 5, none⟩ = some (.int .i64 sz))) (fun _ h => h.2) ?_
    have hHeld : ((fun w' => (convert 24 9 (.slice (some ⟨w107.heap.size, 0, none⟩) 1 1)).run Tryz.prog w' = .ok (.string ST) w' ∧ w'.cell? ⟨w.heap.size, 0, none⟩ = some (.int .u8 T) ∧ w'.cell? ⟨w.heap.size, 1, none⟩ = some (.string nm) ∧ w'.cell? ⟨w.heap.size, 2, none⟩ = some (.string pf) ∧ w'.cell? ⟨w.heap.size, 3, none⟩ = some (.string lk) ∧ w'.cell? ⟨w.heap.size, 4, none⟩ = some (.int .i64 md) ∧ w'.cell? ⟨w.heap.size, 5, none⟩ = some (.int .i64 sz))) w108 := KD.out _ (Below.refl _ _)
    refine wpAnyH_take (i := 21) (oi := { dst := some 34, op := Go.Op.convert 24 9 (Go.Operand.tmp 33), type := 9, pos := "ref.go:69", after := #[{ on := 20, ground := Go.Ground.data }], guard := none }) (v := ?_) rfl (by kernel_rfl) (by kernel_rfl) (by kernel_rfl) (fun _ _ _ h => h) (Or.inl ⟨by rfl, ?_⟩) (by assumption) ?_
    rotate_left 1
    focus ((intro wS hSw; (try dsimp only at hSw); go_simp) <;> (try with_reducible rfl))
    simp only [Act.put, List.setIfInBounds_toArray, List.set_cons_zero, List.set_cons_succ]
    refine wpAnyH_take (i := 22) (oi := { dst := some 35, op := Go.Op.binOp Go.BinOp.add 9 (Go.Operand.tmp 30) (Go.Operand.tmp 34) 9, type := 9, pos := "ref.go:69", after := #[{ on := 17, ground := Go.Ground.data }, { on := 21, ground := Go.Ground.data }], guard := none }) (v := ?_) rfl (by kernel_rfl) (by kernel_rfl) (by kernel_rfl) (fun _ _ _ h => h) (Or.inl ⟨by rfl, ?_⟩) (by assumption) ?_
    rotate_left 1
    focus ((intro wS hSw; (try dsimp only at hSw); go_simp) <;> (try with_reducible rfl))
    simp only [Act.put, List.setIfInBounds_toArray, List.set_cons_zero, List.set_cons_succ]
    refine wpAnyH_take (i := 26) (oi := { dst := some 39, op := Go.Op.binOp Go.BinOp.add 9 (Go.Operand.tmp 35) (Go.Operand.tmp 38) 9, type := 9, pos := "ref.go:69", after := #[{ on := 22, ground := Go.Ground.data }, { on := 25, ground := Go.Ground.data }], guard := none }) (v := ?_) rfl (by kernel_rfl) (by kernel_rfl) (by kernel_rfl) (fun _ _ _ h => h) (Or.inl ⟨by rfl, ?_⟩) (by assumption) ?_
    rotate_left 1
    focus ((intro wS hSw; (try dsimp only at hSw); go_simp) <;> (try with_reducible rfl))
    simp only [Act.put, List.setIfInBounds_toArray, List.set_cons_zero, List.set_cons_succ]
    refine wpAnyH_take (i := 27) (oi := { dst := some 40, op := Go.Op.binOp Go.BinOp.add 9 (Go.Operand.tmp 39) (Go.Operand.const (Go.Value.string { data := #[117, 115, 116, 97, 114, 0, 48, 48] })) 9, type := 9, pos := "ref.go:69", after := #[{ on := 26, ground := Go.Ground.data }], guard := none }) (v := ?_) rfl (by kernel_rfl) (by kernel_rfl) (by kernel_rfl) (fun _ _ _ h => h) (Or.inl ⟨by rfl, ?_⟩) (by assumption) ?_
    rotate_left 1
    focus ((intro wS hSw; (try dsimp only at hSw); go_simp) <;> (try with_reducible rfl))
    simp only [Act.put, List.setIfInBounds_toArray, List.set_cons_zero, List.set_cons_succ]
    refine wpAnyH_take (i := 29) (oi := { dst := some 42, op := Go.Op.binOp Go.BinOp.add 9 (Go.Operand.tmp 40) (Go.Operand.tmp 41) 9, type := 9, pos := "ref.go:69", after := #[{ on := 27, ground := Go.Ground.data }, { on := 28, ground := Go.Ground.data }], guard := none }) (v := ?_) rfl (by kernel_rfl) (by kernel_rfl) (by kernel_rfl) (fun _ _ _ h => h) (Or.inl ⟨by rfl, ?_⟩) (by assumption) ?_
    rotate_left 1
    focus ((intro wS hSw; (try dsimp only at hSw); go_simp) <;> (try with_reducible rfl))
    simp only [Act.put, List.setIfInBounds_toArray, List.set_cons_zero, List.set_cons_succ]
    refine wpAnyH_take (i := 31) (oi := { dst := some 44, op := Go.Op.binOp Go.BinOp.add 9 (Go.Operand.tmp 42) (Go.Operand.tmp 43) 9, type := 9, pos := "ref.go:69", after := #[{ on := 29, ground := Go.Ground.data }, { on := 30, ground := Go.Ground.data }], guard := none }) (v := ?_) rfl (by kernel_rfl) (by kernel_rfl) (by kernel_rfl) (fun _ _ _ h => h) (Or.inl ⟨by rfl, ?_⟩) (by assumption) ?_
    rotate_left 1
    focus ((intro wS hSw; (try dsimp only at hSw); go_simp) <;> (try with_reducible rfl))
    simp only [Act.put, List.setIfInBounds_toArray, List.set_cons_zero, List.set_cons_succ]
    refine wpAnyH_take (i := 33) (oi := { dst := some 46, op := Go.Op.binOp Go.BinOp.add 9 (Go.Operand.tmp 44) (Go.Operand.tmp 45) 9, type := 9, pos := "ref.go:69", after := #[{ on := 31, ground := Go.Ground.data }, { on := 32, ground := Go.Ground.data }], guard := none }) (v := ?_) rfl (by kernel_rfl) (by kernel_rfl) (by kernel_rfl) (fun _ _ _ h => h) (Or.inl ⟨by rfl, ?_⟩) (by assumption) ?_
    rotate_left 1
    focus ((intro wS hSw; (try dsimp only at hSw); go_simp) <;> (try with_reducible rfl))
    simp only [Act.put, List.setIfInBounds_toArray, List.set_cons_zero, List.set_cons_succ]
    refine wpAnyH_ready (rs := [34]) (by kernel_rfl) (by simp) ?_
    refine AllReadyH.cons (o := { dst := some 47, op := Go.Op.call { callee := Go.Callee.value (Go.Operand.func 67), args := #[Go.Operand.const (Go.Value.int Go.IntKind.i64 0), Go.Operand.const (Go.Value.int Go.IntKind.i64 8)], argTypes := #[2, 3] }, type := 9, pos := "ref.go:69", after := #[{ on := 32, ground := Go.Ground.chain }], guard := none }) rfl (fun K hK => ?_) AllReadyH.nil
    go_simp
    refine (N8.out w108).mono ?_; rintro e w109 ⟨rfl, b⟩
    have BA109 := Lib.hid (BA108.out.trans (b.mono BA108.out.size))
    have BX109 := Lib.hid b
    clear b
    go_wp2_with fail
    refine hK.out _ _ (KD.out _ BX109.out) (fun hHeld => ?_)
    clear hK K
    (try simp only [Act.put, List.setIfInBounds_toArray, List.set_cons_zero, List.set_cons_succ])
    refine wpAnyH_take (i := 35) (oi := { dst := some 48, op := Go.Op.binOp Go.BinOp.add 9 (Go.Operand.tmp 46) (Go.Operand.tmp 47) 9, type := 9, pos := "ref.go:69", after := #[{ on := 33, ground := Go.Ground.data }, { on := 34, ground := Go.Ground.data }], guard := none }) (v := ?_) rfl (by kernel_rfl) (by kernel_rfl) (by kernel_rfl) (fun _ _ _ h => h) (Or.inl ⟨by rfl, ?_⟩) (by assumption) ?_
    rotate_left 1
    focus ((intro wS hSw; (try dsimp only at hSw); go_simp) <;> (try with_reducible rfl))
    simp only [Act.put, List.setIfInBounds_toArray, List.set_cons_zero, List.set_cons_succ]
    refine wpAnyH_ready (rs := [38]) (by kernel_rfl) (by simp) ?_
    refine AllReadyH.cons (o := { dst := some 51, op := Go.Op.call { callee := Go.Callee.value (Go.Operand.func 66), args := #[Go.Operand.tmp 50, Go.Operand.const (Go.Value.int Go.IntKind.i64 155)], argTypes := #[9, 3] }, type := 9, pos := "ref.go:69", after := #[{ on := 37, ground := Go.Ground.data }, { on := 34, ground := Go.Ground.chain }], guard := none }) rfl (fun K hK => ?_) AllReadyH.nil
    go_simp
    refine (N5.out w109).mono ?_; rintro e w110 ⟨rfl, b⟩
    have BA110 := Lib.hid (BA109.out.trans (b.mono BA109.out.size))
    have BX110 := Lib.hid (BX109.out.trans (b.mono BX109.out.size))
    clear b
    go_wp2_with fail
    refine hK.out _ _ (KD.out _ BX110.out) (fun hHeld => ?_)
    clear hK K
    (try simp only [Act.put, List.setIfInBounds_toArray, List.set_cons_zero, List.set_cons_succ])
    refine wpAnyH_take (i := 39) (oi := { dst := some 52, op := Go.Op.binOp Go.BinOp.add 9 (Go.Operand.tmp 48) (Go.Operand.tmp 51) 9, type := 9, pos := "ref.go:69", after := #[{ on := 35, ground := Go.Ground.data }, { on := 38, ground := Go.Ground.data }], guard := none }) (v := ?_) rfl (by kernel_rfl) (by kernel_rfl) (by kernel_rfl) (fun _ _ _ h => h) (Or.inl ⟨by rfl, ?_⟩) (by assumption) ?_
    rotate_left 1
    focus ((intro wS hSw; (try dsimp only at hSw); go_simp) <;> (try with_reducible rfl))
    simp only [Act.put, List.setIfInBounds_toArray, List.set_cons_zero, List.set_cons_succ]
    refine wpAnyH_ready (rs := [40]) (by kernel_rfl) (by simp) ?_
    refine AllReadyH.cons (o := { dst := some 53, op := Go.Op.call { callee := Go.Callee.value (Go.Operand.func 66), args := #[Go.Operand.const (Go.Value.string { data := #[] }), Go.Operand.const (Go.Value.int Go.IntKind.i64 12)], argTypes := #[9, 3] }, type := 9, pos := "ref.go:69", after := #[{ on := 38, ground := Go.Ground.chain }], guard := none }) rfl (fun K hK => ?_) AllReadyH.nil
    go_simp
    refine (NX.out w110).mono ?_; rintro e w111 ⟨rfl, b⟩
    have BA111 := Lib.hid (BA110.out.trans (b.mono BA110.out.size))
    have BX111 := Lib.hid (BX110.out.trans (b.mono BX110.out.size))
    clear b
    go_wp2_with fail
    refine hK.out _ _ (KD.out _ BX111.out) (fun hHeld => ?_)
    clear hK K
    (try simp only [Act.put, List.setIfInBounds_toArray, List.set_cons_zero, List.set_cons_succ])
    refine wpAnyH_take (i := 41) (oi := { dst := some 54, op := Go.Op.binOp Go.BinOp.add 9 (Go.Operand.tmp 52) (Go.Operand.tmp 53) 9, type := 9, pos := "ref.go:69", after := #[{ on := 39, ground := Go.Ground.data }, { on := 40, ground := Go.Ground.data }], guard := none }) (v := ?_) rfl (by kernel_rfl) (by kernel_rfl) (by kernel_rfl) (fun _ _ _ h => h) (Or.inl ⟨by rfl, ?_⟩) (by assumption) ?_
    rotate_left 1
    focus ((intro wS hSw; (try dsimp only at hSw); go_simp) <;> (try with_reducible rfl))
    simp only [Act.put, List.setIfInBounds_toArray, List.set_cons_zero, List.set_cons_succ]
    refine wpAnyH_take (i := 42) (oi := { dst := some 5, op := Go.Op.assign (Go.Operand.tmp 54), type := 9, pos := "ref.go:69", after := #[{ on := 41, ground := Go.Ground.data }, { on := 40, ground := Go.Ground.chain }, { on := 0, ground := Go.Ground.phase }, { on := 1, ground := Go.Ground.phase }, { on := 2, ground := Go.Ground.phase }, { on := 3, ground := Go.Ground.phase }, { on := 4, ground := Go.Ground.phase }, { on := 5, ground := Go.Ground.phase }, { on := 6, ground := Go.Ground.phase }, { on := 7, ground := Go.Ground.phase }, { on := 8, ground := Go.Ground.phase }, { on := 9, ground := Go.Ground.phase }, { on := 10, ground := Go.Ground.phase }, { on := 11, ground := Go.Ground.phase }, { on := 12, ground := Go.Ground.phase }, { on := 13, ground := Go.Ground.phase }, { on := 14, ground := Go.Ground.phase }, { on := 15, ground := Go.Ground.phase }, { on := 16, ground := Go.Ground.phase }, { on := 17, ground := Go.Ground.phase }, { on := 18, ground := Go.Ground.phase }, { on := 19, ground := Go.Ground.phase }, { on := 20, ground := Go.Ground.phase }, { on := 21, ground := Go.Ground.phase }, { on := 22, ground := Go.Ground.phase }, { on := 23, ground := Go.Ground.phase }, { on := 24, ground := Go.Ground.phase }, { on := 25, ground := Go.Ground.phase }, { on := 26, ground := Go.Ground.phase }, { on := 27, ground := Go.Ground.phase }, { on := 28, ground := Go.Ground.phase }, { on := 29, ground := Go.Ground.phase }, { on := 30, ground := Go.Ground.phase }, { on := 31, ground := Go.Ground.phase }, { on := 32, ground := Go.Ground.phase }, { on := 33, ground := Go.Ground.phase }, { on := 34, ground := Go.Ground.phase }, { on := 35, ground := Go.Ground.phase }, { on := 36, ground := Go.Ground.phase }, { on := 37, ground := Go.Ground.phase }, { on := 38, ground := Go.Ground.phase }, { on := 39, ground := Go.Ground.phase }, { on := 40, ground := Go.Ground.phase }, { on := 41, ground := Go.Ground.phase }], guard := none }) (v := ?_) rfl (by kernel_rfl) (by kernel_rfl) (by kernel_rfl) (fun _ _ _ h => h) (Or.inl ⟨by rfl, ?_⟩) (by assumption) ?_
    rotate_left 1
    focus ((intro wS hSw; (try dsimp only at hSw); go_simp) <;> (try with_reducible rfl))
    simp only [Act.put, List.setIfInBounds_toArray, List.set_cons_zero, List.set_cons_succ]
    refine wpAnyH_done (by kernel_rfl) ?_ _
    obtain ⟨S9, hS9⟩ := named (((((((((((((((s1 ++ o1) ++ o8) ++ o8) ++ o3) ++ o12) ++ { data := #[32, 32, 32, 32, 32, 32, 32, 32] }) ++ ST) ++ s4) ++ { data := #[117, 115, 116, 97, 114, 0, 48, 48] }) ++ x32) ++ x32) ++ o8) ++ o8) ++ s5) ++ xx)
    rw [← hS9.out]
    have hz : numsOf S9 = rawH T nm pf lk md sz := hS9.out ▸ HBIG.out
    have hsz : S9.size = 512 := by rw [← numsOf_length, hz]; exact HRL.out
    obtain ⟨c9, w9, hrun, hrow, hbel, hlt⟩ := run_bytes_of (P := Tryz.prog) w111 Tryz.underlying9 Tryz.underlying24 Tryz.underlying5 S9
    rw [hsz] at hrun
    rw [hz] at hrow
    have hcap : Hid (512 ≤ c9) := CAP.out _ _ _ _ hsz hrun
    have B9 := Lib.hid (BA111.out.trans (hbel.mono BA111.out.size)); have R9 := Lib.hid (BytesIn.of_row hrow hlt)
    clear hbel hrow hlt
    go_wp2_with fail
    refine (Chk.rseal_ok _ c9 _ w9 HRL.out R9.out hcap.out).mono ?_; rintro e w10 ⟨b10, c10, rfl, hr10, hl10, hb10⟩
    have B10 := Lib.hid (B9.out.trans (hb10.mono B9.out.size)); have R10 := Lib.hid hr10; have L10 := Lib.hid hl10
    clear hr10 hl10 hb10
    go_wp2_with fail
    go_ret2
    exact ⟨b10, c10, rfl, R10.out, L10.out, B2.out.trans (B10.out.mono B2.out.size)⟩
  refine AllReadyH.cons (o := { dst := some 47, op := Go.Op.call { callee := Go.Callee.value (Go.Operand.func 67), args := #[Go.Operand.const (Go.Value.int Go.IntKind.i64 0), Go.Operand.const (Go.Value.int Go.IntKind.i64 8)], argTypes := #[2, 3] }, type := 9, pos := "ref.go:69", after := #[{ on := 32, ground := Go.Ground.chain }], guard := none }) rfl (fun K hK => ?_) AllReadyH.nil
  go_simp
  refine (N8.out w107).mono ?_; rintro e w112 ⟨rfl, b⟩
  have BA112 := Lib.hid (BA107.out.trans (b.mono BA107.out.size))
  clear b
  go_wp2_with fail
  refine hK.out _ _ (KC.out _ BA112.out) (fun hHeld => ?_)
  clear hK K
  (try simp only [Act.put, List.setIfInBounds_toArray, List.set_cons_zero, List.set_cons_succ])
  refine wpAnyH_ready (rs := [20, 38]) (by kernel_rfl) (by simp) ?_
  refine AllReadyH.cons (o := { dst := some 33, op := Go.Op.buildSlice 24 1 #[(0, Go.Operand.tmp 32)], type := 24, pos := "ref.go:69", after := #[{ on := 19, ground := Go.Ground.data }], guard := none }) rfl (fun K hK => ?_) ?_
  · skip
    go_simp
    obtain ⟨w113, hw113⟩ := named (w112.alloc (.cells #[.int .u8 T] 5 (0, 0)))
    rw [← hw113.out]
    have b113 : Below w112.heap.size w112 w113 := by rw [hw113.out]; exact (Below.refl _ _).alloc (Nat.le_refl _) _
    have BA113 := Lib.hid (BA112.out.trans (b113.mono BA112.out.size))
    have KD : Hid (∀ w', Below w113.heap.size w113 w' → (fun w' => (convert 24 9 (.slice (some ⟨w112.heap.size, 0, none⟩) 1 1)).run Tryz.prog w' = .ok (.string ST) w' ∧ w'.cell? ⟨w.heap.size, 0, none⟩ = some (.int .u8 T) ∧ w'.cell? ⟨w.heap.size, 1, none⟩ = some (.string nm) ∧ w'.cell? ⟨w.heap.size, 2, none⟩ = some (.string pf) ∧ w'.cell? ⟨w.heap.size, 3, none⟩ = some (.string lk) ∧ w'.cell? ⟨w.heap.size, 4, none⟩ = some (.int .i64 md) ∧ w'.cell? ⟨w.heap.size, 5, none⟩ = some (.int .i64 sz)) w') := KDL.out w112 w113 (by rw [hw113.out]) BA113.out
    clear b113
    refine hK.out _ _ (KC.out _ BA113.out) (fun hHeld => ?_)
    clear hK K
    (try simp only [Act.put, List.setIfInBounds_toArray, List.set_cons_zero, List.set_cons_succ])
    refine wpAnyH_switch (S2 := (fun w' => (convert 24 9 (.slice (some ⟨w112.heap.size, 0, none⟩) 1 1)).run Tryz.prog w' = .ok (.string ST) w' ∧ w'.cell? ⟨w.heap.size, 0, none⟩ = some (.int .u8 T) ∧ w'.cell? ⟨w.heap.size, 1, none⟩ = some (.string nm) ∧ w'.cell? ⟨w.heap.size, 2, none⟩ = some (.string pf) ∧ w'.cell? ⟨w.heap.size, 3, none⟩ = some (.string lk) ∧ w'.cell? ⟨w.heap.size, 4, none⟩ = some (.int .i64 md) ∧ w'.cell? ⟨w.heap.size, 5, none⟩ = some (.int .i64 sz))) (fun _ h => h.2) ?_
    have hHeld : ((fun w' => (convert 24 9 (.slice (some ⟨w112.heap.size, 0, none⟩) 1 1)).run Tryz.prog w' = .ok (.string ST) w' ∧ w'.cell? ⟨w.heap.size, 0, none⟩ = some (.int .u8 T) ∧ w'.cell? ⟨w.heap.size, 1, none⟩ = some (.string nm) ∧ w'.cell? ⟨w.heap.size, 2, none⟩ = some (.string pf) ∧ w'.cell? ⟨w.heap.size, 3, none⟩ = some (.string lk) ∧ w'.cell? ⟨w.heap.size, 4, none⟩ = some (.int .i64 md) ∧ w'.cell? ⟨w.heap.size, 5, none⟩ = some (.int .i64 sz))) w113 := KD.out _ (Below.refl _ _)
    refine wpAnyH_take (i := 21) (oi := { dst := some 34, op := Go.Op.convert 24 9 (Go.Operand.tmp 33), type := 9, pos := "ref.go:69", after := #[{ on := 20, ground := Go.Ground.data }], guard := none }) (v := ?_) rfl (by kernel_rfl) (by kernel_rfl) (by kernel_rfl) (fun _ _ _ h => h) (Or.inl ⟨by rfl, ?_⟩) (by assumption) ?_
    rotate_left 1
    focus ((intro wS hSw; (try dsimp only at hSw); go_simp) <;> (try with_reducible rfl))
    simp only [Act.put, List.setIfInBounds_toArray, List.set_cons_zero, List.set_cons_succ]
    refine wpAnyH_take (i := 22) (oi := { dst := some 35, op := Go.Op.binOp Go.BinOp.add 9 (Go.Operand.tmp 30) (Go.Operand.tmp 34) 9, type := 9, pos := "ref.go:69", after := #[{ on := 17, ground := Go.Ground.data }, { on := 21, ground := Go.Ground.data }], guard := none }) (v := ?_) rfl (by kernel_rfl) (by kernel_rfl) (by kernel_rfl) (fun _ _ _ h => h) (Or.inl ⟨by rfl, ?_⟩) (by assumption) ?_
    rotate_left 1
    focus ((intro wS hSw; (try dsimp only at hSw); go_simp) <;> (try with_reducible rfl))
    simp only [Act.put, List.setIfInBounds_toArray, List.set_cons_zero, List.set_cons_succ]
    refine wpAnyH_take (i := 26) (oi := { dst := some 39, op := Go.Op.binOp Go.BinOp.add 9 (Go.Operand.tmp 35) (Go.Operand.tmp 38) 9, type := 9, pos := "ref.go:69", after := #[{ on := 22, ground := Go.Ground.data }, { on := 25, ground := Go.Ground.data }], guard := none }) (v := ?_) rfl (by kernel_rfl) (by kernel_rfl) (by kernel_rfl) (fun _ _ _ h => h) (Or.inl ⟨by rfl, ?_⟩) (by assumption) ?_
    rotate_left 1
    focus ((intro wS hSw; (try dsimp only at hSw); go_simp) <;> (try with_reducible rfl))
    simp only [Act.put, List.setIfInBounds_toArray, List.set_cons_zero, List.set_cons_succ]
    refine wpAnyH_take (i := 27) (oi := { dst := some 40, op := Go.Op.binOp Go.BinOp.add 9 (Go.Operand.tmp 39) (Go.Operand.const (Go.Value.string { data := #[117, 115, 116, 97, 114, 0, 48, 48] })) 9, type := 9, pos := "ref.go:69", after := #[{ on := 26, ground := Go.Ground.data }], guard := none }) (v := ?_) rfl (by kernel_rfl) (by kernel_rfl) (by kernel_rfl) (fun _ _ _ h => h) (Or.inl ⟨by rfl, ?_⟩) (by assumption) ?_
    rotate_left 1
    focus ((intro wS hSw; (try dsimp only at hSw); go_simp) <;> (try with_reducible rfl))
    simp only [Act.put, List.setIfInBounds_toArray, List.set_cons_zero, List.set_cons_succ]
    refine wpAnyH_take (i := 29) (oi := { dst := some 42, op := Go.Op.binOp Go.BinOp.add 9 (Go.Operand.tmp 40) (Go.Operand.tmp 41) 9, type := 9, pos := "ref.go:69", after := #[{ on := 27, ground := Go.Ground.data }, { on := 28, ground := Go.Ground.data }], guard := none }) (v := ?_) rfl (by kernel_rfl) (by kernel_rfl) (by kernel_rfl) (fun _ _ _ h => h) (Or.inl ⟨by rfl, ?_⟩) (by assumption) ?_
    rotate_left 1
    focus ((intro wS hSw; (try dsimp only at hSw); go_simp) <;> (try with_reducible rfl))
    simp only [Act.put, List.setIfInBounds_toArray, List.set_cons_zero, List.set_cons_succ]
    refine wpAnyH_take (i := 31) (oi := { dst := some 44, op := Go.Op.binOp Go.BinOp.add 9 (Go.Operand.tmp 42) (Go.Operand.tmp 43) 9, type := 9, pos := "ref.go:69", after := #[{ on := 29, ground := Go.Ground.data }, { on := 30, ground := Go.Ground.data }], guard := none }) (v := ?_) rfl (by kernel_rfl) (by kernel_rfl) (by kernel_rfl) (fun _ _ _ h => h) (Or.inl ⟨by rfl, ?_⟩) (by assumption) ?_
    rotate_left 1
    focus ((intro wS hSw; (try dsimp only at hSw); go_simp) <;> (try with_reducible rfl))
    simp only [Act.put, List.setIfInBounds_toArray, List.set_cons_zero, List.set_cons_succ]
    refine wpAnyH_take (i := 33) (oi := { dst := some 46, op := Go.Op.binOp Go.BinOp.add 9 (Go.Operand.tmp 44) (Go.Operand.tmp 45) 9, type := 9, pos := "ref.go:69", after := #[{ on := 31, ground := Go.Ground.data }, { on := 32, ground := Go.Ground.data }], guard := none }) (v := ?_) rfl (by kernel_rfl) (by kernel_rfl) (by kernel_rfl) (fun _ _ _ h => h) (Or.inl ⟨by rfl, ?_⟩) (by assumption) ?_
    rotate_left 1
    focus ((intro wS hSw; (try dsimp only at hSw); go_simp) <;> (try with_reducible rfl))
    simp only [Act.put, List.setIfInBounds_toArray, List.set_cons_zero, List.set_cons_succ]
    refine wpAnyH_take (i := 35) (oi := { dst := some 48, op := Go.Op.binOp Go.BinOp.add 9 (Go.Operand.tmp 46) (Go.Operand.tmp 47) 9, type := 9, pos := "ref.go:69", after := #[{ on := 33, ground := Go.Ground.data }, { on := 34, ground := Go.Ground.data }], guard := none }) (v := ?_) rfl (by kernel_rfl) (by kernel_rfl) (by kernel_rfl) (fun _ _ _ h => h) (Or.inl ⟨by rfl, ?_⟩) (by assumption) ?_
    rotate_left 1
    focus ((intro wS hSw; (try dsimp only at hSw); go_simp) <;> (try with_reducible rfl))
    simp only [Act.put, List.setIfInBounds_toArray, List.set_cons_zero, List.set_cons_succ]
    refine wpAnyH_ready (rs := [38]) (by kernel_rfl) (by simp) ?_
    refine AllReadyH.cons (o := { dst := some 51, op := Go.Op.call { callee := Go.Callee.value (Go.Operand.func 66), args := #[Go.Operand.tmp 50, Go.Operand.const (Go.Value.int Go.IntKind.i64 155)], argTypes := #[9, 3] }, type := 9, pos := "ref.go:69", after := #[{ on := 37, ground := Go.Ground.data }, { on := 34, ground := Go.Ground.chain }], guard := none }) rfl (fun K hK => ?_) AllReadyH.nil
    go_simp
    refine (N5.out w113).mono ?_; rintro e w114 ⟨rfl, b⟩
    have BA114 := Lib.hid (BA113.out.trans (b.mono BA113.out.size))
    have BX114 := Lib.hid b
    clear b
    go_wp2_with fail
    refine hK.out _ _ (KD.out _ BX114.out) (fun hHeld => ?_)
    clear hK K
    (try simp only [Act.put, List.setIfInBounds_toArray, List.set_cons_zero, List.set_cons_succ])
    refine wpAnyH_take (i := 39) (oi := { dst := some 52, op := Go.Op.binOp Go.BinOp.add 9 (Go.Operand.tmp 48) (Go.Operand.tmp 51) 9, type := 9, pos := "ref.go:69", after := #[{ on := 35, ground := Go.Ground.data }, { on := 38, ground := Go.Ground.data }], guard := none }) (v := ?_) rfl (by kernel_rfl) (by kernel_rfl) (by kernel_rfl) (fun _ _ _ h => h) (Or.inl ⟨by rfl, ?_⟩) (by assumption) ?_
    rotate_left 1
    focus ((intro wS hSw; (try dsimp only at hSw); go_simp) <;> (try with_reducible rfl))
    simp only [Act.put, List.setIfInBounds_toArray, List.set_cons_zero, List.set_cons_succ]
    refine wpAnyH_ready (rs := [40]) (by kernel_rfl) (by simp) ?_
    refine AllReadyH.cons (o := { dst := some 53, op := Go.Op.call { callee := Go.Callee.value (Go.Operand.func 66), args := #[Go.Operand.const (Go.Value.string { data := #[] }), Go.Operand.const (Go.Value.int Go.IntKind.i64 12)], argTypes := #[9, 3] }, type := 9, pos := "ref.go:69", after := #[{ on := 38, ground := Go.Ground.chain }], guard := none }) rfl (fun K hK => ?_) AllReadyH.nil
    go_simp
    refine (NX.out w114).mono ?_; rintro e w115 ⟨rfl, b⟩
    have BA115 := Lib.hid (BA114.out.trans (b.mono BA114.out.size))
    have BX115 := Lib.hid (BX114.out.trans (b.mono BX114.out.size))
    clear b
    go_wp2_with fail
    refine hK.out _ _ (KD.out _ BX115.out) (fun hHeld => ?_)
    clear hK K
    (try simp only [Act.put, List.setIfInBounds_toArray, List.set_cons_zero, List.set_cons_succ])
    refine wpAnyH_take (i := 41) (oi := { dst := some 54, op := Go.Op.binOp Go.BinOp.add 9 (Go.Operand.tmp 52) (Go.Operand.tmp 53) 9, type := 9, pos := "ref.go:69", after := #[{ on := 39, ground := Go.Ground.data }, { on := 40, ground := Go.Ground.data }], guard := none }) (v := ?_) rfl (by kernel_rfl) (by kernel_rfl) (by kernel_rfl) (fun _ _ _ h => h) (Or.inl ⟨by rfl, ?_⟩) (by assumption) ?_
    rotate_left 1
    focus ((intro wS hSw; (try dsimp only at hSw); go_simp) <;> (try with_reducible rfl))
    simp only [Act.put, List.setIfInBounds_toArray, List.set_cons_zero, List.set_cons_succ]
    refine wpAnyH_take (i := 42) (oi := { dst := some 5, op := Go.Op.assign (Go.Operand.tmp 54), type := 9, pos := "ref.go:69", after := #[{ on := 41, ground := Go.Ground.data }, { on := 40, ground := Go.Ground.chain }, { on := 0, ground := Go.Ground.phase }, { on := 1, ground := Go.Ground.phase }, { on := 2, ground := Go.Ground.phase }, { on := 3, ground := Go.Ground.phase }, { on := 4, ground := Go.Ground.phase }, { on := 5, ground := Go.Ground.phase }, { on := 6, ground := Go.Ground.phase }, { on := 7, ground := Go.Ground.phase }, { on := 8, ground := Go.Ground.phase }, { on := 9, ground := Go.Ground.phase }, { on := 10, ground := Go.Ground.phase }, { on := 11, ground := Go.Ground.phase }, { on := 12, ground := Go.Ground.phase }, { on := 13, ground := Go.Ground.phase }, { on := 14, ground := Go.Ground.phase }, { on := 15, ground := Go.Ground.phase }, { on := 16, ground := Go.Ground.phase }, { on := 17, ground := Go.Ground.phase }, { on := 18, ground := Go.Ground.phase }, { on := 19, ground := Go.Ground.phase }, { on := 20, ground := Go.Ground.phase }, { on := 21, ground := Go.Ground.phase }, { on := 22, ground := Go.Ground.phase }, { on := 23, ground := Go.Ground.phase }, { on := 24, ground := Go.Ground.phase }, { on := 25, ground := Go.Ground.phase }, { on := 26, ground := Go.Ground.phase }, { on := 27, ground := Go.Ground.phase }, { on := 28, ground := Go.Ground.phase }, { on := 29, ground := Go.Ground.phase }, { on := 30, ground := Go.Ground.phase }, { on := 31, ground := Go.Ground.phase }, { on := 32, ground := Go.Ground.phase }, { on := 33, ground := Go.Ground.phase }, { on := 34, ground := Go.Ground.phase }, { on := 35, ground := Go.Ground.phase }, { on := 36, ground := Go.Ground.phase }, { on := 37, ground := Go.Ground.phase }, { on := 38, ground := Go.Ground.phase }, { on := 39, ground := Go.Ground.phase }, { on := 40, ground := Go.Ground.phase }, { on := 41, ground := Go.Ground.phase }], guard := none }) (v := ?_) rfl (by kernel_rfl) (by kernel_rfl) (by kernel_rfl) (fun _ _ _ h => h) (Or.inl ⟨by rfl, ?_⟩) (by assumption) ?_
    rotate_left 1
    focus ((intro wS hSw; (try dsimp only at hSw); go_simp) <;> (try with_reducible rfl))
    simp only [Act.put, List.setIfInBounds_toArray, List.set_cons_zero, List.set_cons_succ]
    refine wpAnyH_done (by kernel_rfl) ?_ _
    obtain ⟨S9, hS9⟩ := named (((((((((((((((s1 ++ o1) ++ o8) ++ o8) ++ o3) ++ o12) ++ { data := #[32, 32, 32, 32, 32, 32, 32, 32] }) ++ ST) ++ s4) ++ { data := #[117, 115, 116, 97, 114, 0, 48, 48] }) ++ x32) ++ x32) ++ o8) ++ o8) ++ s5) ++ xx)
    rw [← hS9.out]
    have hz : numsOf S9 = rawH T nm pf lk md sz := hS9.out ▸ HBIG.out
    have hsz : S9.size = 512 := by rw [← numsOf_length, hz]; exact HRL.out
    obtain ⟨c9, w9, hrun, hrow, hbel, hlt⟩ := run_bytes_of (P := Tryz.prog) w115 Tryz.underlying9 Tryz.underlying24 Tryz.underlying5 S9
    rw [hsz] at hrun
    rw [hz] at hrow
    have hcap : Hid (512 ≤ c9) := CAP.out _ _ _ _ hsz hrun
    have B9 := Lib.hid (BA115.out.trans (hbel.mono BA115.out.size)); have R9 := Lib.hid (BytesIn.of_row hrow hlt)
    clear hbel hrow hlt
    go_wp2_with fail
    refine (Chk.rseal_ok _ c9 _ w9 HRL.out R9.out hcap.out).mono ?_; rintro e w10 ⟨b10, c10, rfl, hr10, hl10, hb10⟩
    have B10 := Lib.hid (B9.out.trans (hb10.mono B9.out.size)); have R10 := Lib.hid hr10; have L10 := Lib.hid hl10
    clear hr10 hl10 hb10
    go_wp2_with fail
    go_ret2
    exact ⟨b10, c10, rfl, R10.out, L10.out, B2.out.trans (B10.out.mono B2.out.size)⟩
  refine AllReadyH.cons (o := { dst := some 51, op := Go.Op.call { callee := Go.Callee.value (Go.Operand.func 66), args := #[Go.Operand.tmp 50, Go.Operand.const (Go.Value.int Go.IntKind.i64 155)], argTypes := #[9, 3] }, type := 9, pos := "ref.go:69", after := #[{ on := 37, ground := Go.Ground.data }, { on := 34, ground := Go.Ground.chain }], guard := none }) rfl (fun K hK => ?_) AllReadyH.nil
  go_simp
  refine (N5.out w112).mono ?_; rintro e w116 ⟨rfl, b⟩
  have BA116 := Lib.hid (BA112.out.trans (b.mono BA112.out.size))
  clear b
  go_wp2_with fail
  refine hK.out _ _ (KC.out _ BA116.out) (fun hHeld => ?_)
  clear hK K
  (try simp only [Act.put, List.setIfInBounds_toArray, List.set_cons_zero, List.set_cons_succ])
  refine wpAnyH_ready (rs := [20, 40]) (by kernel_rfl) (by simp) ?_
  refine AllReadyH.cons (o := { dst := some 33, op := Go.Op.buildSlice 24 1 #[(0, Go.Operand.tmp 32)], type := 24, pos := "ref.go:69", after := #[{ on := 19, ground := Go.Ground.data }], guard := none }) rfl (fun K hK => ?_) ?_
  · skip
    go_simp
    obtain ⟨w117, hw117⟩ := named (w116.alloc (.cells #[.int .u8 T] 5 (0, 0)))
    rw [← hw117.out]
    have b117 : Below w116.heap.size w116 w117 := by rw [hw117.out]; exact (Below.refl _ _).alloc (Nat.le_refl _) _
    have BA117 := Lib.hid (BA116.out.trans (b117.mono BA116.out.size))
    have KD : Hid (∀ w', Below w117.heap.size w117 w' → (fun w' => (convert 24 9 (.slice (some ⟨w116.heap.size, 0, none⟩) 1 1)).run Tryz.prog w' = .ok (.string ST) w' ∧ w'.cell? ⟨w.heap.size, 0, none⟩ = some (.int .u8 T) ∧ w'.cell? ⟨w.heap.size, 1, none⟩ = some (.string nm) ∧ w'.cell? ⟨w.heap.size, 2, none⟩ = some (.string pf) ∧ w'.cell? ⟨w.heap.size, 3, none⟩ = some (.string lk) ∧ w'.cell? ⟨w.heap.size, 4, none⟩ = some (.int .i64 md) ∧ w'.cell? ⟨w.heap.size, 5, none⟩ = some (.int .i64 sz)) w') := KDL.out w116 w117 (by rw [hw117.out]) BA117.out
    clear b117
    refine hK.out _ _ (KC.out _ BA117.out) (fun hHeld => ?_)
    clear hK K
    (try simp only [Act.put, List.setIfInBounds_toArray, List.set_cons_zero, List.set_cons_succ])
    refine wpAnyH_switch (S2 := (fun w' => (convert 24 9 (.slice (some ⟨w116.heap.size, 0, none⟩) 1 1)).run Tryz.prog w' = .ok (.string ST) w' ∧ w'.cell? ⟨w.heap.size, 0, none⟩ = some (.int .u8 T) ∧ w'.cell? ⟨w.heap.size, 1, none⟩ = some (.string nm) ∧ w'.cell? ⟨w.heap.size, 2, none⟩ = some (.string pf) ∧ w'.cell? ⟨w.heap.size, 3, none⟩ = some (.string lk) ∧ w'.cell? ⟨w.heap.size, 4, none⟩ = some (.int .i64 md) ∧ w'.cell? ⟨w.heap.size, 5, none⟩ = some (.int .i64 sz))) (fun _ h => h.2) ?_
    have hHeld : ((fun w' => (convert 24 9 (.slice (some ⟨w116.heap.size, 0, none⟩) 1 1)).run Tryz.prog w' = .ok (.string ST) w' ∧ w'.cell? ⟨w.heap.size, 0, none⟩ = some (.int .u8 T) ∧ w'.cell? ⟨w.heap.size, 1, none⟩ = some (.string nm) ∧ w'.cell? ⟨w.heap.size, 2, none⟩ = some (.string pf) ∧ w'.cell? ⟨w.heap.size, 3, none⟩ = some (.string lk) ∧ w'.cell? ⟨w.heap.size, 4, none⟩ = some (.int .i64 md) ∧ w'.cell? ⟨w.heap.size, 5, none⟩ = some (.int .i64 sz))) w117 := KD.out _ (Below.refl _ _)
    refine wpAnyH_take (i := 21) (oi := { dst := some 34, op := Go.Op.convert 24 9 (Go.Operand.tmp 33), type := 9, pos := "ref.go:69", after := #[{ on := 20, ground := Go.Ground.data }], guard := none }) (v := ?_) rfl (by kernel_rfl) (by kernel_rfl) (by kernel_rfl) (fun _ _ _ h => h) (Or.inl ⟨by rfl, ?_⟩) (by assumption) ?_
    rotate_left 1
    focus ((intro wS hSw; (try dsimp only at hSw); go_simp) <;> (try with_reducible rfl))
    simp only [Act.put, List.setIfInBounds_toArray, List.set_cons_zero, List.set_cons_succ]
    refine wpAnyH_take (i := 22) (oi := { dst := some 35, op := Go.Op.binOp Go.BinOp.add 9 (Go.Operand.tmp 30) (Go.Operand.tmp 34) 9, type := 9, pos := "ref.go:69", after := #[{ on := 17, ground := Go.Ground.data }, { on := 21, ground := Go.Ground.data }], guard := none }) (v := ?_) rfl (by kernel_rfl) (by kernel_rfl) (by kernel_rfl) (fun _ _ _ h => h) (Or.inl ⟨by rfl, ?_⟩) (by assumption) ?_
    rotate_left 1
    focus ((intro wS hSw; (try dsimp only at hSw); go_simp) <;> (try with_reducible rfl))
    simp only [Act.put, List.setIfInBounds_toArray, List.set_cons_zero, List.set_cons_succ]
    refine wpAnyH_take (i := 26) (oi := { dst := some 39, op := Go.Op.binOp Go.BinOp.add 9 (Go.Operand.tmp 35) (Go.Operand.tmp 38) 9, type := 9, pos := "ref.go:69", after := #[{ on := 22, ground := Go.Ground.data }, { on := 25, ground := Go.Ground.data }], guard := none }) (v := ?_) rfl (by kernel_rfl) (by kernel_rfl) (by kernel_rfl) (fun _ _ _ h => h) (Or.inl ⟨by rfl, ?_⟩) (by assumption) ?_
    rotate_left 1
    focus ((intro wS hSw; (try dsimp only at hSw); go_simp) <;> (try with_reducible rfl))
    simp only [Act.put, List.setIfInBounds_toArray, List.set_cons_zero, List.set_cons_succ]
    refine wpAnyH_take (i := 27) (oi := { dst := some 40, op := Go.Op.binOp Go.BinOp.add 9 (Go.Operand.tmp 39) (Go.Operand.const (Go.Value.string { data := #[117, 115, 116, 97, 114, 0, 48, 48] })) 9, type := 9, pos := "ref.go:69", after := #[{ on := 26, ground := Go.Ground.data }], guard := none }) (v := ?_) rfl (by kernel_rfl) (by kernel_rfl) (by kernel_rfl) (fun _ _ _ h => h) (Or.inl ⟨by rfl, ?_⟩) (by assumption) ?_
    rotate_left 1
    focus ((intro wS hSw; (try dsimp only at hSw); go_simp) <;> (try with_reducible rfl))
    simp only [Act.put, List.setIfInBounds_toArray, List.set_cons_zero, List.set_cons_succ]
    refine wpAnyH_take (i := 29) (oi := { dst := some 42, op := Go.Op.binOp Go.BinOp.add 9 (Go.Operand.tmp 40) (Go.Operand.tmp 41) 9, type := 9, pos := "ref.go:69", after := #[{ on := 27, ground := Go.Ground.data }, { on := 28, ground := Go.Ground.data }], guard := none }) (v := ?_) rfl (by kernel_rfl) (by kernel_rfl) (by kernel_rfl) (fun _ _ _ h => h) (Or.inl ⟨by rfl, ?_⟩) (by assumption) ?_
    rotate_left 1
    focus ((intro wS hSw; (try dsimp only at hSw); go_simp) <;> (try with_reducible rfl))
    simp only [Act.put, List.setIfInBounds_toArray, List.set_cons_zero, List.set_cons_succ]
    refine wpAnyH_take (i := 31) (oi := { dst := some 44, op := Go.Op.binOp Go.BinOp.add 9 (Go.Operand.tmp 42) (Go.Operand.tmp 43) 9, type := 9, pos := "ref.go:69", after := #[{ on := 29, ground := Go.Ground.data }, { on := 30, ground := Go.Ground.data }], guard := none }) (v := ?_) rfl (by kernel_rfl) (by kernel_rfl) (by kernel_rfl) (fun _ _ _ h => h) (Or.inl ⟨by rfl, ?_⟩) (by assumption) ?_
    rotate_left 1
    focus ((intro wS hSw; (try dsimp only at hSw); go_simp) <;> (try with_reducible rfl))
    simp only [Act.put, List.setIfInBounds_toArray, List.set_cons_zero, List.set_cons_succ]
    refine wpAnyH_take (i := 33) (oi := { dst := some 46, op := Go.Op.binOp Go.BinOp.add 9 (Go.Operand.tmp 44) (Go.Operand.tmp 45) 9, type := 9, pos := "ref.go:69", after := #[{ on := 31, ground := Go.Ground.data }, { on := 32, ground := Go.Ground.data }], guard := none }) (v := ?_) rfl (by kernel_rfl) (by kernel_rfl) (by kernel_rfl) (fun _ _ _ h => h) (Or.inl ⟨by rfl, ?_⟩) (by assumption) ?_
    rotate_left 1
    focus ((intro wS hSw; (try dsimp only at hSw); go_simp) <;> (try with_reducible rfl))
    simp only [Act.put, List.setIfInBounds_toArray, List.set_cons_zero, List.set_cons_succ]
    refine wpAnyH_take (i := 35) (oi := { dst := some 48, op := Go.Op.binOp Go.BinOp.add 9 (Go.Operand.tmp 46) (Go.Operand.tmp 47) 9, type := 9, pos := "ref.go:69", after := #[{ on := 33, ground := Go.Ground.data }, { on := 34, ground := Go.Ground.data }], guard := none }) (v := ?_) rfl (by kernel_rfl) (by kernel_rfl) (by kernel_rfl) (fun _ _ _ h => h) (Or.inl ⟨by rfl, ?_⟩) (by assumption) ?_
    rotate_left 1
    focus ((intro wS hSw; (try dsimp only at hSw); go_simp) <;> (try with_reducible rfl))
    simp only [Act.put, List.setIfInBounds_toArray, List.set_cons_zero, List.set_cons_succ]
    refine wpAnyH_take (i := 39) (oi := { dst := some 52, op := Go.Op.binOp Go.BinOp.add 9 (Go.Operand.tmp 48) (Go.Operand.tmp 51) 9, type := 9, pos := "ref.go:69", after := #[{ on := 35, ground := Go.Ground.data }, { on := 38, ground := Go.Ground.data }], guard := none }) (v := ?_) rfl (by kernel_rfl) (by kernel_rfl) (by kernel_rfl) (fun _ _ _ h => h) (Or.inl ⟨by rfl, ?_⟩) (by assumption) ?_
    rotate_left 1
    focus ((intro wS hSw; (try dsimp only at hSw); go_simp) <;> (try with_reducible rfl))
    simp only [Act.put, List.setIfInBounds_toArray, List.set_cons_zero, List.set_cons_succ]
    refine wpAnyH_ready (rs := [40]) (by kernel_rfl) (by simp) ?_
    refine AllReadyH.cons (o := { dst := some 53, op := Go.Op.call { callee := Go.Callee.value (Go.Operand.func 66), args := #[Go.Operand.const (Go.Value.string { data := #[] }), Go.Operand.const (Go.Value.int Go.IntKind.i64 12)], argTypes := #[9, 3] }, type := 9, pos := "ref.go:69", after := #[{ on := 38, ground := Go.Ground.chain }], guard := none }) rfl (fun K hK => ?_) AllReadyH.nil
    go_simp
    refine (NX.out w117).mono ?_; rintro e w118 ⟨rfl, b⟩
    have BA118 := Lib.hid (BA117.out.trans (b.mono BA117.out.size))
    have BX118 := Lib.hid b
    clear b
    go_wp2_with fail
    refine hK.out _ _ (KD.out _ BX118.out) (fun hHeld => ?_)
    clear hK K
    (try simp only [Act.put, List.setIfInBounds_toArray, List.set_cons_zero, List.set_cons_succ])
    refine wpAnyH_take (i := 41) (oi := { dst := some 54, op := Go.Op.binOp Go.BinOp.add 9 (Go.Operand.tmp 52) (Go.Operand.tmp 53) 9, type := 9, pos := "ref.go:69", after := #[{ on := 39, ground := Go.Ground.data }, { on := 40, ground := Go.Ground.data }], guard := none }) (v := ?_) rfl (by kernel_rfl) (by kernel_rfl) (by kernel_rfl) (fun _ _ _ h => h) (Or.inl ⟨by rfl, ?_⟩) (by assumption) ?_
    rotate_left 1
    focus ((intro wS hSw; (try dsimp only at hSw); go_simp) <;> (try with_reducible rfl))
    simp only [Act.put, List.setIfInBounds_toArray, List.set_cons_zero, List.set_cons_succ]
    refine wpAnyH_take (i := 42) (oi := { dst := some 5, op := Go.Op.assign (Go.Operand.tmp 54), type := 9, pos := "ref.go:69", after := #[{ on := 41, ground := Go.Ground.data }, { on := 40, ground := Go.Ground.chain }, { on := 0, ground := Go.Ground.phase }, { on := 1, ground := Go.Ground.phase }, { on := 2, ground := Go.Ground.phase }, { on := 3, ground := Go.Ground.phase }, { on := 4, ground := Go.Ground.phase }, { on := 5, ground := Go.Ground.phase }, { on := 6, ground := Go.Ground.phase }, { on := 7, ground := Go.Ground.phase }, { on := 8, ground := Go.Ground.phase }, { on := 9, ground := Go.Ground.phase }, { on := 10, ground := Go.Ground.phase }, { on := 11, ground := Go.Ground.phase }, { on := 12, ground := Go.Ground.phase }, { on := 13, ground := Go.Ground.phase }, { on := 14, ground := Go.Ground.phase }, { on := 15, ground := Go.Ground.phase }, { on := 16, ground := Go.Ground.phase }, { on := 17, ground := Go.Ground.phase }, { on := 18, ground := Go.Ground.phase }, { on := 19, ground := Go.Ground.phase }, { on := 20, ground := Go.Ground.phase }, { on := 21, ground := Go.Ground.phase }, { on := 22, ground := Go.Ground.phase }, { on := 23, ground := Go.Ground.phase }, { on := 24, ground := Go.Ground.phase }, { on := 25, ground := Go.Ground.phase }, { on := 26, ground := Go.Ground.phase }, { on := 27, ground := Go.Ground.phase }, { on := 28, ground := Go.Ground.phase }, { on := 29, ground := Go.Ground.phase }, { on := 30, ground := Go.Ground.phase }, { on := 31, ground := Go.Ground.phase }, { on := 32, ground := Go.Ground.phase }, { on := 33, ground := Go.Ground.phase }, { on := 34, ground := Go.Ground.phase }, { on := 35, ground := Go.Ground.phase }, { on := 36, ground := Go.Ground.phase }, { on := 37, ground := Go.Ground.phase }, { on := 38, ground := Go.Ground.phase }, { on := 39, ground := Go.Ground.phase }, { on := 40, ground := Go.Ground.phase }, { on := 41, ground := Go.Ground.phase }], guard := none }) (v := ?_) rfl (by kernel_rfl) (by kernel_rfl) (by kernel_rfl) (fun _ _ _ h => h) (Or.inl ⟨by rfl, ?_⟩) (by assumption) ?_
    rotate_left 1
    focus ((intro wS hSw; (try dsimp only at hSw); go_simp) <;> (try with_reducible rfl))
    simp only [Act.put, List.setIfInBounds_toArray, List.set_cons_zero, List.set_cons_succ]
    refine wpAnyH_done (by kernel_rfl) ?_ _
    obtain ⟨S9, hS9⟩ := named (((((((((((((((s1 ++ o1) ++ o8) ++ o8) ++ o3) ++ o12) ++ { data := #[32, 32, 32, 32, 32, 32, 32, 32] }) ++ ST) ++ s4) ++ { data := #[117, 115, 116, 97, 114, 0, 48, 48] }) ++ x32) ++ x32) ++ o8) ++ o8) ++ s5) ++ xx)
    rw [← hS9.out]
    have hz : numsOf S9 = rawH T nm pf lk md sz := hS9.out ▸ HBIG.out
    have hsz : S9.size = 512 := by rw [← numsOf_length, hz]; exact HRL.out
    obtain ⟨c9, w9, hrun, hrow, hbel, hlt⟩ := run_bytes_of (P := Tryz.prog) w118 Tryz.underlying9 Tryz.underlying24 Tryz.underlying5 S9
    rw [hsz] at hrun
    rw [hz] at hrow
    have hcap : Hid (512 ≤ c9) := CAP.out _ _ _ _ hsz hrun
    have B9 := Lib.hid (BA118.out.trans (hbel.mono BA118.out.size)); have R9 := Lib.hid (BytesIn.of_row hrow hlt)
    clear hbel hrow hlt
    go_wp2_with fail
    refine (Chk.rseal_ok _ c9 _ w9 HRL.out R9.out hcap.out).mono ?_; rintro e w10 ⟨b10, c10, rfl, hr10, hl10, hb10⟩
    have B10 := Lib.hid (B9.out.trans (hb10.mono B9.out.size)); have R10 := Lib.hid hr10; have L10 := Lib.hid hl10
    clear hr10 hl10 hb10
    go_wp2_with fail
    go_ret2
    exact ⟨b10, c10, rfl, R10.out, L10.out, B2.out.trans (B10.out.mono B2.out.size)⟩
  refine AllReadyH.cons (o := { dst := some 53, op := Go.Op.call { callee := Go.Callee.value (Go.Operand.func 66), args := #[Go.Operand.const (Go.Value.string { data := #[] }), Go.Operand.const (Go.Value.int Go.IntKind.i64 12)], argTypes := #[9, 3] }, type := 9, pos := "ref.go:69", after := #[{ on := 38, ground := Go.Ground.chain }], guard := none }) rfl (fun K hK => ?_) AllReadyH.nil
  go_simp
  refine (NX.out w116).mono ?_; rintro e w119 ⟨rfl, b⟩
  have BA119 := Lib.hid (BA116.out.trans (b.mono BA116.out.size))
  clear b
  go_wp2_with fail
  refine hK.out _ _ (KC.out _ BA119.out) (fun hHeld => ?_)
  clear hK K
  (try simp only [Act.put, List.setIfInBounds_toArray, List.set_cons_zero, List.set_cons_succ])
  refine wpAnyH_ready (rs := [20]) (by kernel_rfl) (by simp) ?_
  refine AllReadyH.cons (o := { dst := some 33, op := Go.Op.buildSlice 24 1 #[(0, Go.Operand.tmp 32)], type := 24, pos := "ref.go:69", after := #[{ on := 19, ground := Go.Ground.data }], guard := none }) rfl (fun K hK => ?_) AllReadyH.nil
  go_simp
  obtain ⟨w120, hw120⟩ := named (w119.alloc (.cells #[.int .u8 T] 5 (0, 0)))
  rw [← hw120.out]
  have b120 : Below w119.heap.size w119 w120 := by rw [hw120.out]; exact (Below.refl _ _).alloc (Nat.le_refl _) _
  have BA120 := Lib.hid (BA119.out.trans (b120.mono BA119.out.size))
  have KD : Hid (∀ w', Below w120.heap.size w120 w' → (fun w' => (convert 24 9 (.slice (some ⟨w119.heap.size, 0, none⟩) 1 1)).run Tryz.prog w' = .ok (.string ST) w' ∧ w'.cell? ⟨w.heap.size, 0, none⟩ = some (.int .u8 T) ∧ w'.cell? ⟨w.heap.size, 1, none⟩ = some (.string nm) ∧ w'.cell? ⟨w.heap.size, 2, none⟩ = some (.string pf) ∧ w'.cell? ⟨w.heap.size, 3, none⟩ = some (.string lk) ∧ w'.cell? ⟨w.heap.size, 4, none⟩ = some (.int .i64 md) ∧ w'.cell? ⟨w.heap.size, 5, none⟩ = some (.int .i64 sz)) w') := KDL.out w119 w120 (by rw [hw120.out]) BA120.out
  clear b120
  refine hK.out _ _ (KC.out _ BA120.out) (fun hHeld => ?_)
  clear hK K
  (try simp only [Act.put, List.setIfInBounds_toArray, List.set_cons_zero, List.set_cons_succ])
  refine wpAnyH_switch (S2 := (fun w' => (convert 24 9 (.slice (some ⟨w119.heap.size, 0, none⟩) 1 1)).run Tryz.prog w' = .ok (.string ST) w' ∧ w'.cell? ⟨w.heap.size, 0, none⟩ = some (.int .u8 T) ∧ w'.cell? ⟨w.heap.size, 1, none⟩ = some (.string nm) ∧ w'.cell? ⟨w.heap.size, 2, none⟩ = some (.string pf) ∧ w'.cell? ⟨w.heap.size, 3, none⟩ = some (.string lk) ∧ w'.cell? ⟨w.heap.size, 4, none⟩ = some (.int .i64 md) ∧ w'.cell? ⟨w.heap.size, 5, none⟩ = some (.int .i64 sz))) (fun _ h => h.2) ?_
  have hHeld : ((fun w' => (convert 24 9 (.slice (some ⟨w119.heap.size, 0, none⟩) 1 1)).run Tryz.prog w' = .ok (.string ST) w' ∧ w'.cell? ⟨w.heap.size, 0, none⟩ = some (.int .u8 T) ∧ w'.cell? ⟨w.heap.size, 1, none⟩ = some (.string nm) ∧ w'.cell? ⟨w.heap.size, 2, none⟩ = some (.string pf) ∧ w'.cell? ⟨w.heap.size, 3, none⟩ = some (.string lk) ∧ w'.cell? ⟨w.heap.size, 4, none⟩ = some (.int .i64 md) ∧ w'.cell? ⟨w.heap.size, 5, none⟩ = some (.int .i64 sz))) w120 := KD.out _ (Below.refl _ _)
  refine wpAnyH_take (i := 21) (oi := { dst := some 34, op := Go.Op.convert 24 9 (Go.Operand.tmp 33), type := 9, pos := "ref.go:69", after := #[{ on := 20, ground := Go.Ground.data }], guard := none }) (v := ?_) rfl (by kernel_rfl) (by kernel_rfl) (by kernel_rfl) (fun _ _ _ h => h) (Or.inl ⟨by rfl, ?_⟩) (by assumption) ?_
  rotate_left 1
  focus ((intro wS hSw; (try dsimp only at hSw); go_simp) <;> (try with_reducible rfl))
  simp only [Act.put, List.setIfInBounds_toArray, List.set_cons_zero, List.set_cons_succ]
  refine wpAnyH_take (i := 22) (oi := { dst := some 35, op := Go.Op.binOp Go.BinOp.add 9 (Go.Operand.tmp 30) (Go.Operand.tmp 34) 9, type := 9, pos := "ref.go:69", after := #[{ on := 17, ground := Go.Ground.data }, { on := 21, ground := Go.Ground.data }], guard := none }) (v := ?_) rfl (by kernel_rfl) (by kernel_rfl) (by kernel_rfl) (fun _ _ _ h => h) (Or.inl ⟨by rfl, ?_⟩) (by assumption) ?_
  rotate_left 1
  focus ((intro wS hSw; (try dsimp only at hSw); go_simp) <;> (try with_reducible rfl))
  simp only [Act.put, List.setIfInBounds_toArray, List.set_cons_zero, List.set_cons_succ]
  refine wpAnyH_take (i := 26) (oi := { dst := some 39, op := Go.Op.binOp Go.BinOp.add 9 (Go.Operand.tmp 35) (Go.Operand.tmp 38) 9, type := 9, pos := "ref.go:69", after := #[{ on := 22, ground := Go.Ground.data }, { on := 25, ground := Go.Ground.data }], guard := none }) (v := ?_) rfl (by kernel_rfl) (by kernel_rfl) (by kernel_rfl) (fun _ _ _ h => h) (Or.inl ⟨by rfl, ?_⟩) (by assumption) ?_
  rotate_left 1
  focus ((intro wS hSw; (try dsimp only at hSw); go_simp) <;> (try with_reducible rfl))
  simp only [Act.put, List.setIfInBounds_toArray, List.set_cons_zero, List.set_cons_succ]
  refine wpAnyH_take (i := 27) (oi := { dst := some 40, op := Go.Op.binOp Go.BinOp.add 9 (Go.Operand.tmp 39) (Go.Operand.const (Go.Value.string { data := #[117, 115, 116, 97, 114, 0, 48, 48] })) 9, type := 9, pos := "ref.go:69", after := #[{ on := 26, ground := Go.Ground.data }], guard := none }) (v := ?_) rfl (by kernel_rfl) (by kernel_rfl) (by kernel_rfl) (fun _ _ _ h => h) (Or.inl ⟨by rfl, ?_⟩) (by assumption) ?_
  rotate_left 1
  focus ((intro wS hSw; (try dsimp only at hSw); go_simp) <;> (try with_reducible rfl))
  simp only [Act.put, List.setIfInBounds_toArray, List.set_cons_zero, List.set_cons_succ]
  refine wpAnyH_take (i := 29) (oi := { dst := some 42, op := Go.Op.binOp Go.BinOp.add 9 (Go.Operand.tmp 40) (Go.Operand.tmp 41) 9, type := 9, pos := "ref.go:69", after := #[{ on := 27, ground := Go.Ground.data }, { on := 28, ground := Go.Ground.data }], guard := none }) (v := ?_) rfl (by kernel_rfl) (by kernel_rfl) (by kernel_rfl) (fun _ _ _ h => h) (Or.inl ⟨by rfl, ?_⟩) (by assumption) ?_
  rotate_left 1
  focus ((intro wS hSw; (try dsimp only at hSw); go_simp) <;> (try with_reducible rfl))
  simp only [Act.put, List.setIfInBounds_toArray, List.set_cons_zero, List.set_cons_succ]
  refine wpAnyH_take (i := 31) (oi := { dst := some 44, op := Go.Op.binOp Go.BinOp.add 9 (Go.Operand.tmp 42) (Go.Operand.tmp 43) 9, type := 9, pos := "ref.go:69", after := #[{ on := 29, ground := Go.Ground.data }, { on := 30, ground := Go.Ground.data }], guard := none }) (v := ?_) rfl (by kernel_rfl) (by kernel_rfl) (by kernel_rfl) (fun _ _ _ h => h) (Or.inl ⟨by rfl, ?_⟩) (by assumption) ?_
  rotate_left 1
  focus ((intro wS hSw; (try dsimp only at hSw); go_simp) <;> (try with_reducible rfl))
  simp only [Act.put, List.setIfInBounds_toArray, List.set_cons_zero, List.set_cons_succ]
  refine wpAnyH_take (i := 33) (oi := { dst := some 46, op := Go.Op.binOp Go.BinOp.add 9 (Go.Operand.tmp 44) (Go.Operand.tmp 45) 9, type := 9, pos := "ref.go:69", after := #[{ on := 31, ground := Go.Ground.data }, { on := 32, ground := Go.Ground.data }], guard := none }) (v := ?_) rfl (by kernel_rfl) (by kernel_rfl) (by kernel_rfl) (fun _ _ _ h => h) (Or.inl ⟨by rfl, ?_⟩) (by assumption) ?_
  rotate_left 1
  focus ((intro wS hSw; (try dsimp only at hSw); go_simp) <;> (try with_reducible rfl))
  simp only [Act.put, List.setIfInBounds_toArray, List.set_cons_zero, List.set_cons_succ]
  refine wpAnyH_take (i := 35) (oi := { dst := some 48, op := Go.Op.binOp Go.BinOp.add 9 (Go.Operand.tmp 46) (Go.Operand.tmp 47) 9, type := 9, pos := "ref.go:69", after := #[{ on := 33, ground := Go.Ground.data }, { on := 34, ground := Go.Ground.data }], guard := none }) (v := ?_) rfl (by kernel_rfl) (by kernel_rfl) (by kernel_rfl) (fun _ _ _ h => h) (Or.inl ⟨by rfl, ?_⟩) (by assumption) ?_
  rotate_left 1
  focus ((intro wS hSw; (try dsimp only at hSw); go_simp) <;> (try with_reducible rfl))
  simp only [Act.put, List.setIfInBounds_toArray, List.set_cons_zero, List.set_cons_succ]
  refine wpAnyH_take (i := 39) (oi := { dst := some 52, op := Go.Op.binOp Go.BinOp.add 9 (Go.Operand.tmp 48) (Go.Operand.tmp 51) 9, type := 9, pos := "ref.go:69", after := #[{ on := 35, ground := Go.Ground.data }, { on := 38, ground := Go.Ground.data }], guard := none }) (v := ?_) rfl (by kernel_rfl) (by kernel_rfl) (by kernel_rfl) (fun _ _ _ h => h) (Or.inl ⟨by rfl, ?_⟩) (by assumption) ?_
  rotate_left 1
  focus ((intro wS hSw; (try dsimp only at hSw); go_simp) <;> (try with_reducible rfl))
  simp only [Act.put, List.setIfInBounds_toArray, List.set_cons_zero, List.set_cons_succ]
  refine wpAnyH_take (i := 41) (oi := { dst := some 54, op := Go.Op.binOp Go.BinOp.add 9 (Go.Operand.tmp 52) (Go.Operand.tmp 53) 9, type := 9, pos := "ref.go:69", after := #[{ on := 39, ground := Go.Ground.data }, { on := 40, ground := Go.Ground.data }], guard := none }) (v := ?_) rfl (by kernel_rfl) (by kernel_rfl) (by kernel_rfl) (fun _ _ _ h => h) (Or.inl ⟨by rfl, ?_⟩) (by assumption) ?_
  rotate_left 1
  focus ((intro wS hSw; (try dsimp only at hSw); go_simp) <;> (try with_reducible rfl))
  simp only [Act.put, List.setIfInBounds_toArray, List.set_cons_zero, List.set_cons_succ]
  refine wpAnyH_take (i := 42) (oi := { dst := some 5, op := Go.Op.assign (Go.Operand.tmp 54), type := 9, pos := "ref.go:69", after := #[{ on := 41, ground := Go.Ground.data }, { on := 40, ground := Go.Ground.chain }, { on := 0, ground := Go.Ground.phase }, { on := 1, ground := Go.Ground.phase }, { on := 2, ground := Go.Ground.phase }, { on := 3, ground := Go.Ground.phase }, { on := 4, ground := Go.Ground.phase }, { on := 5, ground := Go.Ground.phase }, { on := 6, ground := Go.Ground.phase }, { on := 7, ground := Go.Ground.phase }, { on := 8, ground := Go.Ground.phase }, { on := 9, ground := Go.Ground.phase }, { on := 10, ground := Go.Ground.phase }, { on := 11, ground := Go.Ground.phase }, { on := 12, ground := Go.Ground.phase }, { on := 13, ground := Go.Ground.phase }, { on := 14, ground := Go.Ground.phase }, { on := 15, ground := Go.Ground.phase }, { on := 16, ground := Go.Ground.phase }, { on := 17, ground := Go.Ground.phase }, { on := 18, ground := Go.Ground.phase }, { on := 19, ground := Go.Ground.phase }, { on := 20, ground := Go.Ground.phase }, { on := 21, ground := Go.Ground.phase }, { on := 22, ground := Go.Ground.phase }, { on := 23, ground := Go.Ground.phase }, { on := 24, ground := Go.Ground.phase }, { on := 25, ground := Go.Ground.phase }, { on := 26, ground := Go.Ground.phase }, { on := 27, ground := Go.Ground.phase }, { on := 28, ground := Go.Ground.phase }, { on := 29, ground := Go.Ground.phase }, { on := 30, ground := Go.Ground.phase }, { on := 31, ground := Go.Ground.phase }, { on := 32, ground := Go.Ground.phase }, { on := 33, ground := Go.Ground.phase }, { on := 34, ground := Go.Ground.phase }, { on := 35, ground := Go.Ground.phase }, { on := 36, ground := Go.Ground.phase }, { on := 37, ground := Go.Ground.phase }, { on := 38, ground := Go.Ground.phase }, { on := 39, ground := Go.Ground.phase }, { on := 40, ground := Go.Ground.phase }, { on := 41, ground := Go.Ground.phase }], guard := none }) (v := ?_) rfl (by kernel_rfl) (by kernel_rfl) (by kernel_rfl) (fun _ _ _ h => h) (Or.inl ⟨by rfl, ?_⟩) (by assumption) ?_
  rotate_left 1
  focus ((intro wS hSw; (try dsimp only at hSw); go_simp) <;> (try with_reducible rfl))
  simp only [Act.put, List.setIfInBounds_toArray, List.set_cons_zero, List.set_cons_succ]
  refine wpAnyH_done (by kernel_rfl) ?_ _
  obtain ⟨S9, hS9⟩ := named (((((((((((((((s1 ++ o1) ++ o8) ++ o8) ++ o3) ++ o12) ++ { data := #[32, 32, 32, 32, 32, 32, 32, 32] }) ++ ST) ++ s4) ++ { data := #[117, 115, 116, 97, 114, 0, 48, 48] }) ++ x32) ++ x32) ++ o8) ++ o8) ++ s5) ++ xx)
  rw [← hS9.out]
  have hz : numsOf S9 = rawH T nm pf lk md sz := hS9.out ▸ HBIG.out
  have hsz : S9.size = 512 := by rw [← numsOf_length, hz]; exact HRL.out
  obtain ⟨c9, w9, hrun, hrow, hbel, hlt⟩ := run_bytes_of (P := Tryz.prog) w120 Tryz.underlying9 Tryz.underlying24 Tryz.underlying5 S9
  rw [hsz] at hrun
  rw [hz] at hrow
  have hcap : Hid (512 ≤ c9) := CAP.out _ _ _ _ hsz hrun
  have B9 := Lib.hid (BA120.out.trans (hbel.mono BA120.out.size)); have R9 := Lib.hid (BytesIn.of_row hrow hlt)
  clear hbel hrow hlt
  go_wp2_with fail
  refine (Chk.rseal_ok _ c9 _ w9 HRL.out R9.out hcap.out).mono ?_; rintro e w10 ⟨b10, c10, rfl, hr10, hl10, hb10⟩
  have B10 := Lib.hid (B9.out.trans (hb10.mono B9.out.size)); have R10 := Lib.hid hr10; have L10 := Lib.hid hl10
  clear hr10 hl10 hb10
  go_wp2_with fail
  go_ret2
  exact ⟨b10, c10, rfl, R10.out, L10.out, B2.out.trans (B10.out.mono B2.out.size)⟩
end Go.Proofs.YtbbaleambgaanaaGreatDoor.Ust
