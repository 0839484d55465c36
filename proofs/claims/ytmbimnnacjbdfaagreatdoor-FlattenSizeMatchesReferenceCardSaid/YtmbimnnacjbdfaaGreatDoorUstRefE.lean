/-
  Layer 7: the reference's Encode.
-/
import Derived.Test.YtmbimnnacjbdfaaGreatDoorPz11
import Derived.Test.YtmbimnnacjbdfaaGreatDoorPz12
import Derived.Test.YtmbimnnacjbdfaaGreatDoorPz09
namespace Go.Proofs.YtmbimnnacjbdfaaGreatDoor.Ust
open Go.RowKit
open Oct Cst Chk

theorem strOf_app (l m : List Int) : strOfNums l ++ strOfNums m = strOfNums (l ++ m) := by
  apply ByteArray.ext
  apply Array.ext'
  rw [ByteArray.data_append, Array.toList_append, strOfNums_data, strOfNums_data, strOfNums_data, List.map_append]
theorem nums_app (s t : ByteArray) : numsOf (s ++ t) = numsOf s ++ numsOf t := by
  unfold numsOf
  rw [ByteArray.data_append, Array.toList_append, List.map_append]
theorem rhdT : ObjT Tryz.prog 69 6 := ⟨⟨_, Tryz.underlying69⟩, by kernel_rfl⟩

set_option maxHeartbeats 1000000 in
theorem renc_bad (T : Int) (nm pf lk : ByteArray) (md sz : Int) (w : World) (hn : nm.size ≤ maxLen) (hp : pf.size ≤ maxLen) (hk : lk.size ≤ maxLen) (h : ckH T nm pf lk md sz ≠ 0) :
    Calls Tryz.prog 29 #[.agg (hdV T nm pf lk md sz).toArray] w fun e w' => e = .returned (.tuple #[.slice none 0 0, .int .i64 (ckH T nm pf lk md sz)]) ∧ Below w.heap.size w w' := by
  obtain ⟨E, hE⟩ := named (ckH T nm pf lk md sz)
  have hne : (E != 0) = true := by rw [hE.out]; simp [h]
  rw [← hE.out]
  clear h
  have HN := Lib.hid hn; have HP := Lib.hid hp; have HK := Lib.hid hk
  have HT := Lib.hid rhdT
  clear hn hp hk
  go_enter Tryz.func29, Tryz.ntmps29
  go_wp2_with (first | (refine wpList_box_obj rfl 69 _ rfl (hdV T nm pf lk md sz) rfl ?_; intro w1 h1 b1; have H1 := Lib.hid h1; have B1 := Lib.hid b1; clear h1 b1) | (refine wpList_load_obj rfl 69 6 HT.out _ rfl w.heap.size rfl _ (hdV T nm pf lk md sz) H1.out rfl ?_))
  refine (rcheck_any T nm pf lk md sz w1 HN.out HP.out HK.out).mono ?_; rintro e w2 ⟨rfl, b2⟩
  rw [← hE.out]
  have B2 := Lib.hid (B1.out.trans (b2.mono B1.out.size)); clear b2
  go_wp2_with fail
  go_ret2
  exact ⟨rfl, B2.out⟩

theorem big_nums {T : Int} {nm pf lk : ByteArray} {md sz : Int} {s1 s4 s5 o1 o3 o8 o12 x32 xx ST : ByteArray} (hT : 0 ≤ T ∧ T ≤ 255) (h1 : s1 = strOfNums (fldS (numsOf nm) 100)) (h4 : s4 = strOfNums (fldS (numsOf lk) 100)) (h5 : s5 = strOfNums (fldS (numsOf pf) 155)) (p1 : o1 = strOfNums (fld 7 md))
    (p3 : o3 = strOfNums (fld 11 sz)) (p8 : o8 = strOfNums (fld 7 0)) (p12 : o12 = strOfNums (fld 11 0)) (q : x32 = strOfNums (fldS (numsOf { data := #[] }) 32)) (qx : xx = strOfNums (fldS (numsOf { data := #[] }) 12)) (ht : ST = strOfNums [T]) :
    numsOf (((((((((((((((s1 ++ o1) ++ o8) ++ o8) ++ o3) ++ o12) ++ { data := #[32, 32, 32, 32, 32, 32, 32, 32] }) ++ ST) ++ s4) ++ { data := #[117, 115, 116, 97, 114, 0, 48, 48] }) ++ x32) ++ x32) ++ o8) ++ o8) ++ s5) ++ xx) = rawH T nm pf lk md sz := by
  have e0 : numsOf { data := #[] } = [] := rfl
  have e1 : numsOf { data := #[32, 32, 32, 32, 32, 32, 32, 32] } = sp8 := by decide
  have e2 : numsOf { data := #[117, 115, 116, 97, 114, 0, 48, 48] } = magic := by decide
  have e3 : fldS [] 32 = zeros 32 := rfl
  have e4 : fldS [] 12 = zeros 12 := rfl
  simp only [nums_app, h1, h4, h5, p1, p3, p8, p12, q, qx, ht, e0, e1, e2, e3, e4, numsOf_strOfNums (fldS_bytes (numsOf_bytes nm) 100), numsOf_strOfNums (fldS_bytes (numsOf_bytes lk) 100), numsOf_strOfNums (fldS_bytes (numsOf_bytes pf) 155), numsOf_strOfNums (fld_bytes 7 md), numsOf_strOfNums (fld_bytes 11 sz),
    numsOf_strOfNums (fld_bytes 7 0), numsOf_strOfNums (fld_bytes 11 0), numsOf_strOfNums (zeros_bytes 32), numsOf_strOfNums (zeros_bytes 12), numsOf_strOfNums (one_byte hT)]
  simp only [rawH, headA, tailB, List.append_assoc]

theorem size_of {s : ByteArray} {l : List Int} {n : Nat} (h : s = strOfNums l) (hb : Bytes l) (hl : l.length = n) : s.size = n := by
  rw [← numsOf_length, h, numsOf_strOfNums hb, hl]

/-- '[]byte(s)' has room for its own bytes -/
theorem bytes_cap {P : Program} {w : World} {src e dst : TypeId} (hs : P.underlying src = some .string) (hd : P.underlying dst = some (.slice e)) (he : P.underlying e = some (.int .u8)) (s : ByteArray) (n : Nat) {c : Nat} {b : Option Addr} {w' : World} (hn : s.size = n)
    (h : (convert src dst (.string s)).run P w = .ok (.slice b n c) w') : n ≤ c := by
  rw [run_bytes_of_string w src dst e s hs hd he] at h
  simp only [Result.ok.injEq, Value.slice.injEq] at h
  have := h.1.2.2
  rw [← this, ← hn]
  exact grownCap_ge w s.size 0 e

theorem share {T : World → Nat → Prop} {G : Prop} (ways : (∀ w g, T w g) → G) (tail : ∀ w g, T w g) : G := ways tail
theorem wpAnyH_listed {P : Program} {md : Region.Mode} {ops : Array Oper} {Q : Exit → Act → World → Prop} {S : World → Prop} {fuel : Nat} {l l' : Array Bool} {a : Act} {w : World} (h : l' = l) (k : wpAnyH P md ops Q S fuel l a w) : wpAnyH P md ops Q S fuel l' a w := h ▸ k
abbrev ue0 : Oper := { dst := some 13, op := Go.Op.fieldAddr 69 (Go.Operand.tmp 1) 1, type := 0, pos := "ref.go:69", after := #[], guard := none }
abbrev ue1 : Oper := { dst := some 14, op := Go.Op.load 9 (Go.Operand.tmp 13), type := 9, pos := "ref.go:69", after := #[{ on := 0, ground := Go.Ground.data }], guard := none }
abbrev ue2 : Oper := { dst := some 15, op := Go.Op.call { callee := Go.Callee.value (Go.Operand.func 54), args := #[Go.Operand.tmp 14, Go.Operand.const (Go.Value.int Go.IntKind.i64 100)], argTypes := #[9, 3] }, type := 9, pos := "ref.go:69", after := #[{ on := 1, ground := Go.Ground.data }], guard := none }
abbrev ue3 : Oper := { dst := some 16, op := Go.Op.fieldAddr 69 (Go.Operand.tmp 1) 4, type := 0, pos := "ref.go:69", after := #[], guard := none }
abbrev ue4 : Oper := { dst := some 17, op := Go.Op.load 3 (Go.Operand.tmp 16), type := 3, pos := "ref.go:69", after := #[{ on := 3, ground := Go.Ground.data }], guard := none }
abbrev ue5 : Oper := { dst := some 18, op := Go.Op.call { callee := Go.Callee.value (Go.Operand.func 55), args := #[Go.Operand.tmp 17, Go.Operand.const (Go.Value.int Go.IntKind.i64 8)], argTypes := #[2, 3] }, type := 9, pos := "ref.go:69", after := #[{ on := 4, ground := Go.Ground.data }, { on := 2, ground := Go.Ground.chain }], guard := none }
abbrev ue6 : Oper := { dst := some 19, op := Go.Op.binOp Go.BinOp.add 9 (Go.Operand.tmp 15) (Go.Operand.tmp 18) 9, type := 9, pos := "ref.go:69", after := #[{ on := 2, ground := Go.Ground.data }, { on := 5, ground := Go.Ground.data }], guard := none }
abbrev ue7 : Oper := { dst := some 20, op := Go.Op.call { callee := Go.Callee.value (Go.Operand.func 55), args := #[Go.Operand.const (Go.Value.int Go.IntKind.i64 0), Go.Operand.const (Go.Value.int Go.IntKind.i64 8)], argTypes := #[2, 3] }, type := 9, pos := "ref.go:69", after := #[{ on := 5, ground := Go.Ground.chain }], guard := none }
abbrev ue8 : Oper := { dst := some 21, op := Go.Op.binOp Go.BinOp.add 9 (Go.Operand.tmp 19) (Go.Operand.tmp 20) 9, type := 9, pos := "ref.go:69", after := #[{ on := 6, ground := Go.Ground.data }, { on := 7, ground := Go.Ground.data }], guard := none }
abbrev ue9 : Oper := { dst := some 22, op := Go.Op.call { callee := Go.Callee.value (Go.Operand.func 55), args := #[Go.Operand.const (Go.Value.int Go.IntKind.i64 0), Go.Operand.const (Go.Value.int Go.IntKind.i64 8)], argTypes := #[2, 3] }, type := 9, pos := "ref.go:69", after := #[{ on := 7, ground := Go.Ground.chain }], guard := none }
abbrev ue10 : Oper := { dst := some 23, op := Go.Op.binOp Go.BinOp.add 9 (Go.Operand.tmp 21) (Go.Operand.tmp 22) 9, type := 9, pos := "ref.go:69", after := #[{ on := 8, ground := Go.Ground.data }, { on := 9, ground := Go.Ground.data }], guard := none }
abbrev ue11 : Oper := { dst := some 24, op := Go.Op.fieldAddr 69 (Go.Operand.tmp 1) 5, type := 0, pos := "ref.go:69", after := #[], guard := none }
abbrev ue12 : Oper := { dst := some 25, op := Go.Op.load 2 (Go.Operand.tmp 24), type := 2, pos := "ref.go:69", after := #[{ on := 11, ground := Go.Ground.data }], guard := none }
abbrev ue13 : Oper := { dst := some 26, op := Go.Op.call { callee := Go.Callee.value (Go.Operand.func 55), args := #[Go.Operand.tmp 25, Go.Operand.const (Go.Value.int Go.IntKind.i64 12)], argTypes := #[2, 3] }, type := 9, pos := "ref.go:69", after := #[{ on := 12, ground := Go.Ground.data }, { on := 9, ground := Go.Ground.chain }], guard := none }
abbrev ue14 : Oper := { dst := some 27, op := Go.Op.binOp Go.BinOp.add 9 (Go.Operand.tmp 23) (Go.Operand.tmp 26) 9, type := 9, pos := "ref.go:69", after := #[{ on := 10, ground := Go.Ground.data }, { on := 13, ground := Go.Ground.data }], guard := none }
abbrev ue15 : Oper := { dst := some 28, op := Go.Op.call { callee := Go.Callee.value (Go.Operand.func 55), args := #[Go.Operand.const (Go.Value.int Go.IntKind.i64 0), Go.Operand.const (Go.Value.int Go.IntKind.i64 12)], argTypes := #[2, 3] }, type := 9, pos := "ref.go:69", after := #[{ on := 13, ground := Go.Ground.chain }], guard := none }
abbrev ue16 : Oper := { dst := some 29, op := Go.Op.binOp Go.BinOp.add 9 (Go.Operand.tmp 27) (Go.Operand.tmp 28) 9, type := 9, pos := "ref.go:69", after := #[{ on := 14, ground := Go.Ground.data }, { on := 15, ground := Go.Ground.data }], guard := none }
abbrev ue17 : Oper := { dst := some 30, op := Go.Op.binOp Go.BinOp.add 9 (Go.Operand.tmp 29) (Go.Operand.const (Go.Value.string { data := #[32, 32, 32, 32, 32, 32, 32, 32] })) 9, type := 9, pos := "ref.go:69", after := #[{ on := 16, ground := Go.Ground.data }], guard := none }
abbrev ue18 : Oper := { dst := some 31, op := Go.Op.fieldAddr 69 (Go.Operand.tmp 1) 0, type := 0, pos := "ref.go:69", after := #[], guard := none }
abbrev ue19 : Oper := { dst := some 32, op := Go.Op.load 5 (Go.Operand.tmp 31), type := 5, pos := "ref.go:69", after := #[{ on := 18, ground := Go.Ground.data }], guard := none }
abbrev ue20 : Oper := { dst := some 33, op := Go.Op.buildSlice 25 1 #[(0, Go.Operand.tmp 32)], type := 25, pos := "ref.go:69", after := #[{ on := 19, ground := Go.Ground.data }], guard := none }
abbrev ue21 : Oper := { dst := some 34, op := Go.Op.convert 25 9 (Go.Operand.tmp 33), type := 9, pos := "ref.go:69", after := #[{ on := 20, ground := Go.Ground.data }], guard := none }
abbrev ue22 : Oper := { dst := some 35, op := Go.Op.binOp Go.BinOp.add 9 (Go.Operand.tmp 30) (Go.Operand.tmp 34) 9, type := 9, pos := "ref.go:69", after := #[{ on := 17, ground := Go.Ground.data }, { on := 21, ground := Go.Ground.data }], guard := none }
abbrev ue23 : Oper := { dst := some 36, op := Go.Op.fieldAddr 69 (Go.Operand.tmp 1) 3, type := 0, pos := "ref.go:69", after := #[], guard := none }
abbrev ue24 : Oper := { dst := some 37, op := Go.Op.load 9 (Go.Operand.tmp 36), type := 9, pos := "ref.go:69", after := #[{ on := 23, ground := Go.Ground.data }], guard := none }
abbrev ue25 : Oper := { dst := some 38, op := Go.Op.call { callee := Go.Callee.value (Go.Operand.func 54), args := #[Go.Operand.tmp 37, Go.Operand.const (Go.Value.int Go.IntKind.i64 100)], argTypes := #[9, 3] }, type := 9, pos := "ref.go:69", after := #[{ on := 24, ground := Go.Ground.data }, { on := 15, ground := Go.Ground.chain }], guard := none }
abbrev ue26 : Oper := { dst := some 39, op := Go.Op.binOp Go.BinOp.add 9 (Go.Operand.tmp 35) (Go.Operand.tmp 38) 9, type := 9, pos := "ref.go:69", after := #[{ on := 22, ground := Go.Ground.data }, { on := 25, ground := Go.Ground.data }], guard := none }
abbrev ue27 : Oper := { dst := some 40, op := Go.Op.binOp Go.BinOp.add 9 (Go.Operand.tmp 39) (Go.Operand.const (Go.Value.string { data := #[117, 115, 116, 97, 114, 0, 48, 48] })) 9, type := 9, pos := "ref.go:69", after := #[{ on := 26, ground := Go.Ground.data }], guard := none }
abbrev ue28 : Oper := { dst := some 41, op := Go.Op.call { callee := Go.Callee.value (Go.Operand.func 54), args := #[Go.Operand.const (Go.Value.string { data := #[] }), Go.Operand.const (Go.Value.int Go.IntKind.i64 32)], argTypes := #[9, 3] }, type := 9, pos := "ref.go:69", after := #[{ on := 25, ground := Go.Ground.chain }], guard := none }
abbrev ue29 : Oper := { dst := some 42, op := Go.Op.binOp Go.BinOp.add 9 (Go.Operand.tmp 40) (Go.Operand.tmp 41) 9, type := 9, pos := "ref.go:69", after := #[{ on := 27, ground := Go.Ground.data }, { on := 28, ground := Go.Ground.data }], guard := none }
abbrev ue30 : Oper := { dst := some 43, op := Go.Op.call { callee := Go.Callee.value (Go.Operand.func 54), args := #[Go.Operand.const (Go.Value.string { data := #[] }), Go.Operand.const (Go.Value.int Go.IntKind.i64 32)], argTypes := #[9, 3] }, type := 9, pos := "ref.go:69", after := #[{ on := 28, ground := Go.Ground.chain }], guard := none }
abbrev ue31 : Oper := { dst := some 44, op := Go.Op.binOp Go.BinOp.add 9 (Go.Operand.tmp 42) (Go.Operand.tmp 43) 9, type := 9, pos := "ref.go:69", after := #[{ on := 29, ground := Go.Ground.data }, { on := 30, ground := Go.Ground.data }], guard := none }
abbrev ue32 : Oper := { dst := some 45, op := Go.Op.call { callee := Go.Callee.value (Go.Operand.func 55), args := #[Go.Operand.const (Go.Value.int Go.IntKind.i64 0), Go.Operand.const (Go.Value.int Go.IntKind.i64 8)], argTypes := #[2, 3] }, type := 9, pos := "ref.go:69", after := #[{ on := 30, ground := Go.Ground.chain }], guard := none }
abbrev ue33 : Oper := { dst := some 46, op := Go.Op.binOp Go.BinOp.add 9 (Go.Operand.tmp 44) (Go.Operand.tmp 45) 9, type := 9, pos := "ref.go:69", after := #[{ on := 31, ground := Go.Ground.data }, { on := 32, ground := Go.Ground.data }], guard := none }
abbrev ue34 : Oper := { dst := some 47, op := Go.Op.call { callee := Go.Callee.value (Go.Operand.func 55), args := #[Go.Operand.const (Go.Value.int Go.IntKind.i64 0), Go.Operand.const (Go.Value.int Go.IntKind.i64 8)], argTypes := #[2, 3] }, type := 9, pos := "ref.go:69", after := #[{ on := 32, ground := Go.Ground.chain }], guard := none }
abbrev ue35 : Oper := { dst := some 48, op := Go.Op.binOp Go.BinOp.add 9 (Go.Operand.tmp 46) (Go.Operand.tmp 47) 9, type := 9, pos := "ref.go:69", after := #[{ on := 33, ground := Go.Ground.data }, { on := 34, ground := Go.Ground.data }], guard := none }
abbrev ue36 : Oper := { dst := some 49, op := Go.Op.fieldAddr 69 (Go.Operand.tmp 1) 2, type := 0, pos := "ref.go:69", after := #[], guard := none }
abbrev ue37 : Oper := { dst := some 50, op := Go.Op.load 9 (Go.Operand.tmp 49), type := 9, pos := "ref.go:69", after := #[{ on := 36, ground := Go.Ground.data }], guard := none }
abbrev ue38 : Oper := { dst := some 51, op := Go.Op.call { callee := Go.Callee.value (Go.Operand.func 54), args := #[Go.Operand.tmp 50, Go.Operand.const (Go.Value.int Go.IntKind.i64 155)], argTypes := #[9, 3] }, type := 9, pos := "ref.go:69", after := #[{ on := 37, ground := Go.Ground.data }, { on := 34, ground := Go.Ground.chain }], guard := none }
abbrev ue39 : Oper := { dst := some 52, op := Go.Op.binOp Go.BinOp.add 9 (Go.Operand.tmp 48) (Go.Operand.tmp 51) 9, type := 9, pos := "ref.go:69", after := #[{ on := 35, ground := Go.Ground.data }, { on := 38, ground := Go.Ground.data }], guard := none }
abbrev ue40 : Oper := { dst := some 53, op := Go.Op.call { callee := Go.Callee.value (Go.Operand.func 54), args := #[Go.Operand.const (Go.Value.string { data := #[] }), Go.Operand.const (Go.Value.int Go.IntKind.i64 12)], argTypes := #[9, 3] }, type := 9, pos := "ref.go:69", after := #[{ on := 38, ground := Go.Ground.chain }], guard := none }
abbrev ue41 : Oper := { dst := some 54, op := Go.Op.binOp Go.BinOp.add 9 (Go.Operand.tmp 52) (Go.Operand.tmp 53) 9, type := 9, pos := "ref.go:69", after := #[{ on := 39, ground := Go.Ground.data }, { on := 40, ground := Go.Ground.data }], guard := none }
abbrev ue42 : Oper := { dst := some 5, op := Go.Op.assign (Go.Operand.tmp 54), type := 9, pos := "ref.go:69", after := #[{ on := 41, ground := Go.Ground.data }, { on := 40, ground := Go.Ground.chain }, { on := 0, ground := Go.Ground.phase }, { on := 1, ground := Go.Ground.phase }, { on := 2, ground := Go.Ground.phase }, { on := 3, ground := Go.Ground.phase }, { on := 4, ground := Go.Ground.phase }, { on := 5, ground := Go.Ground.phase }, { on := 6, ground := Go.Ground.phase }, { on := 7, ground := Go.Ground.phase }, { on := 8, ground := Go.Ground.phase }, { on := 9, ground := Go.Ground.phase }, { on := 10, ground := Go.Ground.phase }, { on := 11, ground := Go.Ground.phase }, { on := 12, ground := Go.Ground.phase }, { on := 13, ground := Go.Ground.phase }, { on := 14, ground := Go.Ground.phase }, { on := 15, ground := Go.Ground.phase }, { on := 16, ground := Go.Ground.phase }, { on := 17, ground := Go.Ground.phase }, { on := 18, ground := Go.Ground.phase }, { on := 19, ground := Go.Ground.phase }, { on := 20, ground := Go.Ground.phase }, { on := 21, ground := Go.Ground.phase }, { on := 22, ground := Go.Ground.phase }, { on := 23, ground := Go.Ground.phase }, { on := 24, ground := Go.Ground.phase }, { on := 25, ground := Go.Ground.phase }, { on := 26, ground := Go.Ground.phase }, { on := 27, ground := Go.Ground.phase }, { on := 28, ground := Go.Ground.phase }, { on := 29, ground := Go.Ground.phase }, { on := 30, ground := Go.Ground.phase }, { on := 31, ground := Go.Ground.phase }, { on := 32, ground := Go.Ground.phase }, { on := 33, ground := Go.Ground.phase }, { on := 34, ground := Go.Ground.phase }, { on := 35, ground := Go.Ground.phase }, { on := 36, ground := Go.Ground.phase }, { on := 37, ground := Go.Ground.phase }, { on := 38, ground := Go.Ground.phase }, { on := 39, ground := Go.Ground.phase }, { on := 40, ground := Go.Ground.phase }, { on := 41, ground := Go.Ground.phase }], guard := none }

set_option maxRecDepth 100000 in
set_option maxHeartbeats 16000000 in
theorem renc_ok (T : Int) (nm pf lk : ByteArray) (md sz : Int) (w : World) (hn : nm.size ≤ maxLen) (hp : pf.size ≤ maxLen) (hk : lk.size ≤ maxLen) (h : ckH T nm pf lk md sz = 0) :
    Calls Tryz.prog 29 #[.agg (hdV T nm pf lk md sz).toArray] w (RetBytes (encH T nm pf lk md sz) 512 0 w) := by
  obtain ⟨k1, k2, k3, k4, k5, k6⟩ := ckH_zero.1 h
  have hm := mx_7; have hs := mx_11'
  have HRL := Lib.hid (raw_length h)
  have HCK := Lib.hid h
  obtain ⟨s1, h1⟩ := named (strOfNums (fldS (numsOf nm) 100))
  obtain ⟨s4, h4⟩ := named (strOfNums (fldS (numsOf lk) 100))
  obtain ⟨s5, h5⟩ := named (strOfNums (fldS (numsOf pf) 155))
  obtain ⟨o1, p1⟩ := named (strOfNums (fld 7 md))
  obtain ⟨o3, p3⟩ := named (strOfNums (fld 11 sz))
  obtain ⟨o8, p8⟩ := named (strOfNums (fld 7 0))
  obtain ⟨o12, p12⟩ := named (strOfNums (fld 11 0))
  obtain ⟨x32, q32⟩ := named (strOfNums (fldS (numsOf { data := #[] }) 32))
  obtain ⟨xx, qx⟩ := named (strOfNums (fldS (numsOf { data := #[] }) 12))
  obtain ⟨ST, ht⟩ := named (strOfNums [T])
  have HBIG := Lib.hid (big_nums (md := md) (sz := sz) (known_byte k1) h1.out h4.out h5.out p1.out p3.out p8.out p12.out q32.out qx.out ht.out)
  have N1 : Hid (∀ w', Calls Tryz.prog 54 #[.string nm, .int .i64 100] w' fun e w'' => e = .returned (.string s1) ∧ Below w'.heap.size w' w'') := fun w' => by rw [h1.out]; exact rtext_any nm 100 w' k2
  have N4 : Hid (∀ w', Calls Tryz.prog 54 #[.string lk, .int .i64 100] w' fun e w'' => e = .returned (.string s4) ∧ Below w'.heap.size w' w'') := fun w' => by rw [h4.out]; exact rtext_any lk 100 w' k3
  have N5 : Hid (∀ w', Calls Tryz.prog 54 #[.string pf, .int .i64 155] w' fun e w'' => e = .returned (.string s5) ∧ Below w'.heap.size w' w'') := fun w' => by rw [h5.out]; exact rtext_any pf 155 w' k4
  have N32 : Hid (∀ w', Calls Tryz.prog 54 #[.string { data := #[] }, .int .i64 32] w' fun e w'' => e = .returned (.string x32) ∧ Below w'.heap.size w' w'') := fun w' => by rw [q32.out]; exact rtext_any { data := #[] } 32 w' (by decide)
  have NX : Hid (∀ w', Calls Tryz.prog 54 #[.string { data := #[] }, .int .i64 12] w' fun e w'' => e = .returned (.string xx) ∧ Below w'.heap.size w' w'') := fun w' => by rw [qx.out]; exact rtext_any { data := #[] } 12 w' (by decide)
  have N2 : Hid (∀ w', Calls Tryz.prog 55 #[.int .i64 md, .int .i64 8] w' fun e w'' => e = .returned (.string o1) ∧ Below w'.heap.size w' w'') := fun w' => by rw [p1.out]; exact roct_any md 8 7 w' (by decide) (by decide) (by decide) k5.1 (by omega)
  have N3 : Hid (∀ w', Calls Tryz.prog 55 #[.int .i64 sz, .int .i64 12] w' fun e w'' => e = .returned (.string o3) ∧ Below w'.heap.size w' w'') := fun w' => by rw [p3.out]; exact roct_any sz 12 11 w' (by decide) (by decide) (by decide) k6.1 (by omega)
  have N8 : Hid (∀ w', Calls Tryz.prog 55 #[.int .i64 0, .int .i64 8] w' fun e w'' => e = .returned (.string o8) ∧ Below w'.heap.size w' w'') := fun w' => by rw [p8.out]; exact roct_any 0 8 7 w' (by decide) (by decide) (by decide) (by decide) (by decide)
  have N12 : Hid (∀ w', Calls Tryz.prog 55 #[.int .i64 0, .int .i64 12] w' fun e w'' => e = .returned (.string o12) ∧ Below w'.heap.size w' w'') := fun w' => by rw [p12.out]; exact roct_any 0 12 11 w' (by decide) (by decide) (by decide) (by decide) (by decide)
  have HTB := Lib.hid (known_byte k1)
  have CAP : Hid (∀ (w w' : World) (b : Option Addr) (c : Nat) {s : ByteArray}, s.size = 512 → (convert 9 25 (.string s)).run Tryz.prog w = .ok (.slice b 512 c) w' → 512 ≤ c) := fun w w' b c s hs h => bytes_cap Tryz.underlying9 Tryz.underlying25 Tryz.underlying5 s 512 hs h
  have HN := Lib.hid hn; have HP := Lib.hid hp; have HK := Lib.hid hk
  have HT := Lib.hid rhdT
  have z1 : s1.size = 100 := size_of h1.out (fldS_bytes (numsOf_bytes nm) 100) (fldS_length _ _ (ce_len (k := 100) k2))
  have z4 : s4.size = 100 := size_of h4.out (fldS_bytes (numsOf_bytes lk) 100) (fldS_length _ _ (ce_len (k := 100) k3))
  have z5 : s5.size = 155 := size_of h5.out (fldS_bytes (numsOf_bytes pf) 155) (fldS_length _ _ (ce_len (k := 155) k4))
  have y1 : o1.size = 8 := size_of p1.out (fld_bytes 7 md) (fld_length 7 md)
  have y3 : o3.size = 12 := size_of p3.out (fld_bytes 11 sz) (fld_length 11 sz)
  have y8 : o8.size = 8 := size_of p8.out (fld_bytes 7 0) (fld_length 7 0)
  have y12 : o12.size = 12 := size_of p12.out (fld_bytes 11 0) (fld_length 11 0)
  have zx : x32.size = 32 := size_of q32.out (fldS_bytes (numsOf_bytes _) 32) rfl
  have zxx : xx.size = 12 := size_of qx.out (fldS_bytes (numsOf_bytes _) 12) rfl
  have zT : ST.size = 1 := size_of ht.out (one_byte (known_byte k1)) rfl
  clear hn hp hk k1 k2 k3 k4 k5 k6 hm hs h
  go_enter Tryz.func29, Tryz.ntmps29
  go_wp2_with (first | (refine wpList_box_obj rfl 69 _ rfl (hdV T nm pf lk md sz) rfl ?_; intro w1 h1 b1; have H1 := Lib.hid h1; have B1 := Lib.hid b1; clear h1 b1) | (refine wpList_load_obj rfl 69 6 HT.out _ rfl w.heap.size rfl _ (hdV T nm pf lk md sz) H1.out rfl ?_))
  refine (rcheck_any T nm pf lk md sz w1 HN.out HP.out HK.out).mono ?_; rintro e w2 ⟨rfl, b2⟩
  rw [HCK.out]
  have H2 := Lib.hid (H1.out.below b2 H1.out.lt)
  have B2 := Lib.hid (B1.out.trans (b2.mono B1.out.size)); clear b2
  go_wp2_with fail
  have KC : Hid (∀ w', Below w2.heap.size w2 w' → (fun w' => w'.cell? ⟨w.heap.size, 0, none⟩ = some (.int .u8 T) ∧ w'.cell? ⟨w.heap.size, 1, none⟩ = some (.string nm) ∧ w'.cell? ⟨w.heap.size, 2, none⟩ = some (.string pf) ∧ w'.cell? ⟨w.heap.size, 3, none⟩ = some (.string lk) ∧ w'.cell? ⟨w.heap.size, 4, none⟩ = some (.int .i64 md) ∧ w'.cell? ⟨w.heap.size, 5, none⟩ = some (.int .i64 sz)) w') := fun w' hb => by
    have ob := H2.out.below hb H2.out.lt
    exact ⟨ob.get 0 rfl, ob.get 1 rfl, ob.get 2 rfl, ob.get 3 rfl, ob.get 4 rfl, ob.get 5 rfl⟩
  have KDL : Hid (∀ wc x : World, x.heap = (wc.alloc (.cells #[.int .u8 T] 5 (0, 0))).heap → Below w2.heap.size w2 x → ∀ w', Below x.heap.size x w' → (fun w' => (convert 25 9 (.slice (some ⟨wc.heap.size, 0, none⟩) 1 1)).run Tryz.prog w' = .ok (.string ST) w' ∧ w'.cell? ⟨w.heap.size, 0, none⟩ = some (.int .u8 T) ∧ w'.cell? ⟨w.heap.size, 1, none⟩ = some (.string nm) ∧ w'.cell? ⟨w.heap.size, 2, none⟩ = some (.string pf) ∧ w'.cell? ⟨w.heap.size, 3, none⟩ = some (.string lk) ∧ w'.cell? ⟨w.heap.size, 4, none⟩ = some (.int .i64 md) ∧ w'.cell? ⟨w.heap.size, 5, none⟩ = some (.int .i64 sz)) w') := fun wc x hx hb w' hb' => by
    refine ⟨?_, KC.out w' (hb.trans (hb'.mono hb.size))⟩
    have hg : x.heap[wc.heap.size]? = some (.cells #[.int .u8 T] 5 (0, 0)) := by rw [hx]; exact heap_alloc_new wc _
    have hlt : wc.heap.size < x.heap.size := by rw [hx]; simp
    have hr : RowAt x wc.heap.size 0 [T] := ⟨fun i hi => by
      have : i = 0 := by simp at hi; exact hi
      subst this
      rw [cell_of_row _ _ _ _ _ _ hg]; rfl, one_byte HTB.out⟩
    rw [ht.out]
    exact run_str_of Tryz.underlying25 Tryz.underlying5 Tryz.underlying9 (hr.below hb' hlt) 1 1 rfl
  have BA0 : Hid (Below w2.heap.size w2 w2.drew) := (Below.refl _ _).drew
  refine share (T := ?_) (fun X13 => ?_) ?_
  rotate_left 1
  refine share (T := ?_) (fun X12 => ?_) ?_
  rotate_left 1
  refine share (T := ?_) (fun X11 => ?_) ?_
  rotate_left 1
  refine share (T := ?_) (fun X10 => ?_) ?_
  rotate_left 1
  refine share (T := ?_) (fun X9 => ?_) ?_
  rotate_left 1
  refine share (T := ?_) (fun X8 => ?_) ?_
  rotate_left 1
  refine share (T := ?_) (fun X7 => ?_) ?_
  rotate_left 1
  refine share (T := ?_) (fun X6 => ?_) ?_
  rotate_left 1
  refine share (T := ?_) (fun X5 => ?_) ?_
  rotate_left 1
  refine share (T := ?_) (fun X4 => ?_) ?_
  rotate_left 1
  refine share (T := ?_) (fun X3 => ?_) ?_
  rotate_left 1
  refine share (T := ?_) (fun X2 => ?_) ?_
  rotate_left 1
  refine share (T := ?_) (fun X1 => ?_) ?_
  rotate_left 1
  refine share (T := ?_) (fun X0 => ?_) ?_
  rotate_left 1
  refine wp_region_held_drew (S := (fun w' => w'.cell? ⟨w.heap.size, 0, none⟩ = some (.int .u8 T) ∧ w'.cell? ⟨w.heap.size, 1, none⟩ = some (.string nm) ∧ w'.cell? ⟨w.heap.size, 2, none⟩ = some (.string pf) ∧ w'.cell? ⟨w.heap.size, 3, none⟩ = some (.string lk) ∧ w'.cell? ⟨w.heap.size, 4, none⟩ = some (.int .i64 md) ∧ w'.cell? ⟨w.heap.size, 5, none⟩ = some (.int .i64 sz))) (by kernel_rfl) (KC.out _ (Below.refl _ _).drew) (fun hHeld => ?_)
  refine wpAnyH_take (i := 0) (oi := ue0) (v := ?_) rfl (by kernel_rfl) (by kernel_rfl) (by kernel_rfl) (fun _ _ _ h => h) (Or.inl ⟨by rfl, ?_⟩) (by assumption) ?_
  rotate_left 1
  focus ((intro wS hSw; (try dsimp only at hSw); go_simp) <;> (try with_reducible rfl))
  simp only [Act.put, List.setIfInBounds_toArray, List.set_cons_zero, List.set_cons_succ]
  refine wpAnyH_take (i := 1) (oi := ue1) (v := ?_) rfl (by kernel_rfl) (by kernel_rfl) (by kernel_rfl) (fun _ _ _ h => h) (Or.inl ⟨by rfl, ?_⟩) (by assumption) ?_
  rotate_left 1
  focus ((intro wS hSw; (try dsimp only at hSw); go_simp) <;> (try with_reducible rfl))
  simp only [Act.put, List.setIfInBounds_toArray, List.set_cons_zero, List.set_cons_succ]
  refine wpAnyH_take (i := 3) (oi := ue3) (v := ?_) rfl (by kernel_rfl) (by kernel_rfl) (by kernel_rfl) (fun _ _ _ h => h) (Or.inl ⟨by rfl, ?_⟩) (by assumption) ?_
  rotate_left 1
  focus ((intro wS hSw; (try dsimp only at hSw); go_simp) <;> (try with_reducible rfl))
  simp only [Act.put, List.setIfInBounds_toArray, List.set_cons_zero, List.set_cons_succ]
  refine wpAnyH_take (i := 4) (oi := ue4) (v := ?_) rfl (by kernel_rfl) (by kernel_rfl) (by kernel_rfl) (fun _ _ _ h => h) (Or.inl ⟨by rfl, ?_⟩) (by assumption) ?_
  rotate_left 1
  focus ((intro wS hSw; (try dsimp only at hSw); go_simp) <;> (try with_reducible rfl))
  simp only [Act.put, List.setIfInBounds_toArray, List.set_cons_zero, List.set_cons_succ]
  refine wpAnyH_take (i := 11) (oi := ue11) (v := ?_) rfl (by kernel_rfl) (by kernel_rfl) (by kernel_rfl) (fun _ _ _ h => h) (Or.inl ⟨by rfl, ?_⟩) (by assumption) ?_
  rotate_left 1
  focus ((intro wS hSw; (try dsimp only at hSw); go_simp) <;> (try with_reducible rfl))
  simp only [Act.put, List.setIfInBounds_toArray, List.set_cons_zero, List.set_cons_succ]
  refine wpAnyH_take (i := 12) (oi := ue12) (v := ?_) rfl (by kernel_rfl) (by kernel_rfl) (by kernel_rfl) (fun _ _ _ h => h) (Or.inl ⟨by rfl, ?_⟩) (by assumption) ?_
  rotate_left 1
  focus ((intro wS hSw; (try dsimp only at hSw); go_simp) <;> (try with_reducible rfl))
  simp only [Act.put, List.setIfInBounds_toArray, List.set_cons_zero, List.set_cons_succ]
  refine wpAnyH_take (i := 18) (oi := ue18) (v := ?_) rfl (by kernel_rfl) (by kernel_rfl) (by kernel_rfl) (fun _ _ _ h => h) (Or.inl ⟨by rfl, ?_⟩) (by assumption) ?_
  rotate_left 1
  focus ((intro wS hSw; (try dsimp only at hSw); go_simp) <;> (try with_reducible rfl))
  simp only [Act.put, List.setIfInBounds_toArray, List.set_cons_zero, List.set_cons_succ]
  refine wpAnyH_take (i := 19) (oi := ue19) (v := ?_) rfl (by kernel_rfl) (by kernel_rfl) (by kernel_rfl) (fun _ _ _ h => h) (Or.inl ⟨by rfl, ?_⟩) (by assumption) ?_
  rotate_left 1
  focus ((intro wS hSw; (try dsimp only at hSw); go_simp) <;> (try with_reducible rfl))
  simp only [Act.put, List.setIfInBounds_toArray, List.set_cons_zero, List.set_cons_succ]
  refine wpAnyH_take (i := 23) (oi := ue23) (v := ?_) rfl (by kernel_rfl) (by kernel_rfl) (by kernel_rfl) (fun _ _ _ h => h) (Or.inl ⟨by rfl, ?_⟩) (by assumption) ?_
  rotate_left 1
  focus ((intro wS hSw; (try dsimp only at hSw); go_simp) <;> (try with_reducible rfl))
  simp only [Act.put, List.setIfInBounds_toArray, List.set_cons_zero, List.set_cons_succ]
  refine wpAnyH_take (i := 24) (oi := ue24) (v := ?_) rfl (by kernel_rfl) (by kernel_rfl) (by kernel_rfl) (fun _ _ _ h => h) (Or.inl ⟨by rfl, ?_⟩) (by assumption) ?_
  rotate_left 1
  focus ((intro wS hSw; (try dsimp only at hSw); go_simp) <;> (try with_reducible rfl))
  simp only [Act.put, List.setIfInBounds_toArray, List.set_cons_zero, List.set_cons_succ]
  refine wpAnyH_take (i := 36) (oi := ue36) (v := ?_) rfl (by kernel_rfl) (by kernel_rfl) (by kernel_rfl) (fun _ _ _ h => h) (Or.inl ⟨by rfl, ?_⟩) (by assumption) ?_
  rotate_left 1
  focus ((intro wS hSw; (try dsimp only at hSw); go_simp) <;> (try with_reducible rfl))
  simp only [Act.put, List.setIfInBounds_toArray, List.set_cons_zero, List.set_cons_succ]
  refine wpAnyH_take (i := 37) (oi := ue37) (v := ?_) rfl (by kernel_rfl) (by kernel_rfl) (by kernel_rfl) (fun _ _ _ h => h) (Or.inl ⟨by rfl, ?_⟩) (by assumption) ?_
  rotate_left 1
  focus ((intro wS hSw; (try dsimp only at hSw); go_simp) <;> (try with_reducible rfl))
  simp only [Act.put, List.setIfInBounds_toArray, List.set_cons_zero, List.set_cons_succ]
  refine wpAnyH_ready (rs := [2, 20]) (by kernel_rfl) (by simp) ?_
  refine AllReadyH.cons (o := ue2) rfl (fun K hK => ?_) ?rdy0
  case rdy0 =>
    refine AllReadyH.cons (o := ue20) rfl (fun K hK => ?_) AllReadyH.nil
    go_simp
    obtain ⟨w3, hw3⟩ := named ((w2.alloc (.cells #[.int .u8 T] 5 (0, 0))).drew)
    rw [← hw3.out]
    have b3 : Below w2.drew.heap.size w2.drew w3 := by rw [hw3.out]; exact ⟨rfl, rfl, rfl, ((Below.refl w2.heap.size w2).alloc (Nat.le_refl _) _).size, ((Below.refl w2.heap.size w2).alloc (Nat.le_refl _) _).block⟩
    have BA3 := Lib.hid (BA0.out.trans (b3.mono BA0.out.size))
    obtain ⟨g0, hg0⟩ := named w2.heap.size
    have KD : Hid (∀ w', Below w3.heap.size w3 w' → (fun w' => (convert 25 9 (.slice (some ⟨g0, 0, none⟩) 1 1)).run Tryz.prog w' = .ok (.string ST) w' ∧ w'.cell? ⟨w.heap.size, 0, none⟩ = some (.int .u8 T) ∧ w'.cell? ⟨w.heap.size, 1, none⟩ = some (.string nm) ∧ w'.cell? ⟨w.heap.size, 2, none⟩ = some (.string pf) ∧ w'.cell? ⟨w.heap.size, 3, none⟩ = some (.string lk) ∧ w'.cell? ⟨w.heap.size, 4, none⟩ = some (.int .i64 md) ∧ w'.cell? ⟨w.heap.size, 5, none⟩ = some (.int .i64 sz)) w') := by rw [hg0.out]; exact KDL.out w2 w3 (by rw [hw3.out]; rfl) BA3.out
    clear b3
    refine hK.out _ _ (KC.out _ BA3.out) (fun hHeld => ?_)
    clear hK K
    (try simp only [Act.put, List.setIfInBounds_toArray, List.set_cons_zero, List.set_cons_succ])
    rw [← hg0.out]
    refine wpAnyH_switch (S2 := (fun w' => (convert 25 9 (.slice (some ⟨g0, 0, none⟩) 1 1)).run Tryz.prog w' = .ok (.string ST) w' ∧ w'.cell? ⟨w.heap.size, 0, none⟩ = some (.int .u8 T) ∧ w'.cell? ⟨w.heap.size, 1, none⟩ = some (.string nm) ∧ w'.cell? ⟨w.heap.size, 2, none⟩ = some (.string pf) ∧ w'.cell? ⟨w.heap.size, 3, none⟩ = some (.string lk) ∧ w'.cell? ⟨w.heap.size, 4, none⟩ = some (.int .i64 md) ∧ w'.cell? ⟨w.heap.size, 5, none⟩ = some (.int .i64 sz))) (fun _ h => h.2) ?_
    have hHeld := KD.out w3 (Below.refl _ _)
    refine wpAnyH_take (i := 21) (oi := ue21) (v := ?_) rfl (by kernel_rfl) (by kernel_rfl) (by kernel_rfl) (fun _ _ _ h => h) (Or.inl ⟨by rfl, ?_⟩) (by assumption) ?_
    rotate_left 1
    focus ((intro wS hSw; (try dsimp only at hSw); go_simp) <;> (try with_reducible rfl))
    simp only [Act.put, List.setIfInBounds_toArray, List.set_cons_zero, List.set_cons_succ]
    refine wpAnyH_listed (l := #[true, true, false, true, true, false, false, false, false, false, false, true, true, false, false, false, false, false, true, true, true, true, false, true, true, false, false, false, false, false, false, false, false, false, false, false, true, true, false, false, false, false, false]) (by kernel_rfl) ?_
    have KDn := Lib.hid (KD.out)
    have BAn := Lib.hid BA3.out
    revert KDn BAn
    exact X0 w3 g0
  go_simp
  refine (N1.out w2.drew).mono ?_; rintro e w4 ⟨rfl, b⟩
  have BA4 := Lib.hid (BA0.out.trans (b.mono BA0.out.size))
  clear b
  go_wp2_with fail
  refine hK.out _ _ (KC.out _ BA4.out) (fun hHeld => ?_)
  clear hK K
  (try simp only [Act.put, List.setIfInBounds_toArray, List.set_cons_zero, List.set_cons_succ])
  refine wpAnyH_ready (rs := [5, 20]) (by kernel_rfl) (by simp) ?_
  refine AllReadyH.cons (o := ue5) rfl (fun K hK => ?_) ?rdy1
  case rdy1 =>
    refine AllReadyH.cons (o := ue20) rfl (fun K hK => ?_) AllReadyH.nil
    go_simp
    obtain ⟨w5, hw5⟩ := named (w4.alloc (.cells #[.int .u8 T] 5 (0, 0)))
    rw [← hw5.out]
    have b5 : Below w4.heap.size w4 w5 := by rw [hw5.out]; exact (Below.refl _ _).alloc (Nat.le_refl _) _
    have BA5 := Lib.hid (BA4.out.trans (b5.mono BA4.out.size))
    obtain ⟨g1, hg1⟩ := named w4.heap.size
    have KD : Hid (∀ w', Below w5.heap.size w5 w' → (fun w' => (convert 25 9 (.slice (some ⟨g1, 0, none⟩) 1 1)).run Tryz.prog w' = .ok (.string ST) w' ∧ w'.cell? ⟨w.heap.size, 0, none⟩ = some (.int .u8 T) ∧ w'.cell? ⟨w.heap.size, 1, none⟩ = some (.string nm) ∧ w'.cell? ⟨w.heap.size, 2, none⟩ = some (.string pf) ∧ w'.cell? ⟨w.heap.size, 3, none⟩ = some (.string lk) ∧ w'.cell? ⟨w.heap.size, 4, none⟩ = some (.int .i64 md) ∧ w'.cell? ⟨w.heap.size, 5, none⟩ = some (.int .i64 sz)) w') := by rw [hg1.out]; exact KDL.out w4 w5 (by rw [hw5.out]) BA5.out
    clear b5
    refine hK.out _ _ (KC.out _ BA5.out) (fun hHeld => ?_)
    clear hK K
    (try simp only [Act.put, List.setIfInBounds_toArray, List.set_cons_zero, List.set_cons_succ])
    rw [← hg1.out]
    refine wpAnyH_switch (S2 := (fun w' => (convert 25 9 (.slice (some ⟨g1, 0, none⟩) 1 1)).run Tryz.prog w' = .ok (.string ST) w' ∧ w'.cell? ⟨w.heap.size, 0, none⟩ = some (.int .u8 T) ∧ w'.cell? ⟨w.heap.size, 1, none⟩ = some (.string nm) ∧ w'.cell? ⟨w.heap.size, 2, none⟩ = some (.string pf) ∧ w'.cell? ⟨w.heap.size, 3, none⟩ = some (.string lk) ∧ w'.cell? ⟨w.heap.size, 4, none⟩ = some (.int .i64 md) ∧ w'.cell? ⟨w.heap.size, 5, none⟩ = some (.int .i64 sz))) (fun _ h => h.2) ?_
    have hHeld := KD.out w5 (Below.refl _ _)
    refine wpAnyH_take (i := 21) (oi := ue21) (v := ?_) rfl (by kernel_rfl) (by kernel_rfl) (by kernel_rfl) (fun _ _ _ h => h) (Or.inl ⟨by rfl, ?_⟩) (by assumption) ?_
    rotate_left 1
    focus ((intro wS hSw; (try dsimp only at hSw); go_simp) <;> (try with_reducible rfl))
    simp only [Act.put, List.setIfInBounds_toArray, List.set_cons_zero, List.set_cons_succ]
    refine wpAnyH_listed (l := #[true, true, true, true, true, false, false, false, false, false, false, true, true, false, false, false, false, false, true, true, true, true, false, true, true, false, false, false, false, false, false, false, false, false, false, false, true, true, false, false, false, false, false]) (by kernel_rfl) ?_
    have KDn := Lib.hid (KD.out)
    have BAn := Lib.hid BA5.out
    revert KDn BAn
    exact X1 w5 g1
  go_simp
  refine (N2.out w4).mono ?_; rintro e w6 ⟨rfl, b⟩
  have BA6 := Lib.hid (BA4.out.trans (b.mono BA4.out.size))
  clear b
  go_wp2_with fail
  refine hK.out _ _ (KC.out _ BA6.out) (fun hHeld => ?_)
  clear hK K
  (try simp only [Act.put, List.setIfInBounds_toArray, List.set_cons_zero, List.set_cons_succ])
  refine wpAnyH_take (i := 6) (oi := ue6) (v := ?_) rfl (by kernel_rfl) (by kernel_rfl) (by kernel_rfl) (fun _ _ _ h => h) (Or.inl ⟨by rfl, ?_⟩) (by assumption) ?_
  rotate_left 1
  focus ((intro wS hSw; (try dsimp only at hSw); go_simp) <;> (try with_reducible rfl))
  simp only [Act.put, List.setIfInBounds_toArray, List.set_cons_zero, List.set_cons_succ]
  refine wpAnyH_ready (rs := [7, 20]) (by kernel_rfl) (by simp) ?_
  refine AllReadyH.cons (o := ue7) rfl (fun K hK => ?_) ?rdy2
  case rdy2 =>
    refine AllReadyH.cons (o := ue20) rfl (fun K hK => ?_) AllReadyH.nil
    go_simp
    obtain ⟨w7, hw7⟩ := named (w6.alloc (.cells #[.int .u8 T] 5 (0, 0)))
    rw [← hw7.out]
    have b7 : Below w6.heap.size w6 w7 := by rw [hw7.out]; exact (Below.refl _ _).alloc (Nat.le_refl _) _
    have BA7 := Lib.hid (BA6.out.trans (b7.mono BA6.out.size))
    obtain ⟨g2, hg2⟩ := named w6.heap.size
    have KD : Hid (∀ w', Below w7.heap.size w7 w' → (fun w' => (convert 25 9 (.slice (some ⟨g2, 0, none⟩) 1 1)).run Tryz.prog w' = .ok (.string ST) w' ∧ w'.cell? ⟨w.heap.size, 0, none⟩ = some (.int .u8 T) ∧ w'.cell? ⟨w.heap.size, 1, none⟩ = some (.string nm) ∧ w'.cell? ⟨w.heap.size, 2, none⟩ = some (.string pf) ∧ w'.cell? ⟨w.heap.size, 3, none⟩ = some (.string lk) ∧ w'.cell? ⟨w.heap.size, 4, none⟩ = some (.int .i64 md) ∧ w'.cell? ⟨w.heap.size, 5, none⟩ = some (.int .i64 sz)) w') := by rw [hg2.out]; exact KDL.out w6 w7 (by rw [hw7.out]) BA7.out
    clear b7
    refine hK.out _ _ (KC.out _ BA7.out) (fun hHeld => ?_)
    clear hK K
    (try simp only [Act.put, List.setIfInBounds_toArray, List.set_cons_zero, List.set_cons_succ])
    rw [← hg2.out]
    refine wpAnyH_switch (S2 := (fun w' => (convert 25 9 (.slice (some ⟨g2, 0, none⟩) 1 1)).run Tryz.prog w' = .ok (.string ST) w' ∧ w'.cell? ⟨w.heap.size, 0, none⟩ = some (.int .u8 T) ∧ w'.cell? ⟨w.heap.size, 1, none⟩ = some (.string nm) ∧ w'.cell? ⟨w.heap.size, 2, none⟩ = some (.string pf) ∧ w'.cell? ⟨w.heap.size, 3, none⟩ = some (.string lk) ∧ w'.cell? ⟨w.heap.size, 4, none⟩ = some (.int .i64 md) ∧ w'.cell? ⟨w.heap.size, 5, none⟩ = some (.int .i64 sz))) (fun _ h => h.2) ?_
    have hHeld := KD.out w7 (Below.refl _ _)
    refine wpAnyH_take (i := 21) (oi := ue21) (v := ?_) rfl (by kernel_rfl) (by kernel_rfl) (by kernel_rfl) (fun _ _ _ h => h) (Or.inl ⟨by rfl, ?_⟩) (by assumption) ?_
    rotate_left 1
    focus ((intro wS hSw; (try dsimp only at hSw); go_simp) <;> (try with_reducible rfl))
    simp only [Act.put, List.setIfInBounds_toArray, List.set_cons_zero, List.set_cons_succ]
    refine wpAnyH_listed (l := #[true, true, true, true, true, true, true, false, false, false, false, true, true, false, false, false, false, false, true, true, true, true, false, true, true, false, false, false, false, false, false, false, false, false, false, false, true, true, false, false, false, false, false]) (by kernel_rfl) ?_
    have KDn := Lib.hid (KD.out)
    have BAn := Lib.hid BA7.out
    revert KDn BAn
    exact X2 w7 g2
  go_simp
  refine (N8.out w6).mono ?_; rintro e w8 ⟨rfl, b⟩
  have BA8 := Lib.hid (BA6.out.trans (b.mono BA6.out.size))
  clear b
  go_wp2_with fail
  refine hK.out _ _ (KC.out _ BA8.out) (fun hHeld => ?_)
  clear hK K
  (try simp only [Act.put, List.setIfInBounds_toArray, List.set_cons_zero, List.set_cons_succ])
  refine wpAnyH_take (i := 8) (oi := ue8) (v := ?_) rfl (by kernel_rfl) (by kernel_rfl) (by kernel_rfl) (fun _ _ _ h => h) (Or.inl ⟨by rfl, ?_⟩) (by assumption) ?_
  rotate_left 1
  focus ((intro wS hSw; (try dsimp only at hSw); go_simp) <;> (try with_reducible rfl))
  simp only [Act.put, List.setIfInBounds_toArray, List.set_cons_zero, List.set_cons_succ]
  refine wpAnyH_ready (rs := [9, 20]) (by kernel_rfl) (by simp) ?_
  refine AllReadyH.cons (o := ue9) rfl (fun K hK => ?_) ?rdy3
  case rdy3 =>
    refine AllReadyH.cons (o := ue20) rfl (fun K hK => ?_) AllReadyH.nil
    go_simp
    obtain ⟨w9, hw9⟩ := named (w8.alloc (.cells #[.int .u8 T] 5 (0, 0)))
    rw [← hw9.out]
    have b9 : Below w8.heap.size w8 w9 := by rw [hw9.out]; exact (Below.refl _ _).alloc (Nat.le_refl _) _
    have BA9 := Lib.hid (BA8.out.trans (b9.mono BA8.out.size))
    obtain ⟨g3, hg3⟩ := named w8.heap.size
    have KD : Hid (∀ w', Below w9.heap.size w9 w' → (fun w' => (convert 25 9 (.slice (some ⟨g3, 0, none⟩) 1 1)).run Tryz.prog w' = .ok (.string ST) w' ∧ w'.cell? ⟨w.heap.size, 0, none⟩ = some (.int .u8 T) ∧ w'.cell? ⟨w.heap.size, 1, none⟩ = some (.string nm) ∧ w'.cell? ⟨w.heap.size, 2, none⟩ = some (.string pf) ∧ w'.cell? ⟨w.heap.size, 3, none⟩ = some (.string lk) ∧ w'.cell? ⟨w.heap.size, 4, none⟩ = some (.int .i64 md) ∧ w'.cell? ⟨w.heap.size, 5, none⟩ = some (.int .i64 sz)) w') := by rw [hg3.out]; exact KDL.out w8 w9 (by rw [hw9.out]) BA9.out
    clear b9
    refine hK.out _ _ (KC.out _ BA9.out) (fun hHeld => ?_)
    clear hK K
    (try simp only [Act.put, List.setIfInBounds_toArray, List.set_cons_zero, List.set_cons_succ])
    rw [← hg3.out]
    refine wpAnyH_switch (S2 := (fun w' => (convert 25 9 (.slice (some ⟨g3, 0, none⟩) 1 1)).run Tryz.prog w' = .ok (.string ST) w' ∧ w'.cell? ⟨w.heap.size, 0, none⟩ = some (.int .u8 T) ∧ w'.cell? ⟨w.heap.size, 1, none⟩ = some (.string nm) ∧ w'.cell? ⟨w.heap.size, 2, none⟩ = some (.string pf) ∧ w'.cell? ⟨w.heap.size, 3, none⟩ = some (.string lk) ∧ w'.cell? ⟨w.heap.size, 4, none⟩ = some (.int .i64 md) ∧ w'.cell? ⟨w.heap.size, 5, none⟩ = some (.int .i64 sz))) (fun _ h => h.2) ?_
    have hHeld := KD.out w9 (Below.refl _ _)
    refine wpAnyH_take (i := 21) (oi := ue21) (v := ?_) rfl (by kernel_rfl) (by kernel_rfl) (by kernel_rfl) (fun _ _ _ h => h) (Or.inl ⟨by rfl, ?_⟩) (by assumption) ?_
    rotate_left 1
    focus ((intro wS hSw; (try dsimp only at hSw); go_simp) <;> (try with_reducible rfl))
    simp only [Act.put, List.setIfInBounds_toArray, List.set_cons_zero, List.set_cons_succ]
    refine wpAnyH_listed (l := #[true, true, true, true, true, true, true, true, true, false, false, true, true, false, false, false, false, false, true, true, true, true, false, true, true, false, false, false, false, false, false, false, false, false, false, false, true, true, false, false, false, false, false]) (by kernel_rfl) ?_
    have KDn := Lib.hid (KD.out)
    have BAn := Lib.hid BA9.out
    revert KDn BAn
    exact X3 w9 g3
  go_simp
  refine (N8.out w8).mono ?_; rintro e w10 ⟨rfl, b⟩
  have BA10 := Lib.hid (BA8.out.trans (b.mono BA8.out.size))
  clear b
  go_wp2_with fail
  refine hK.out _ _ (KC.out _ BA10.out) (fun hHeld => ?_)
  clear hK K
  (try simp only [Act.put, List.setIfInBounds_toArray, List.set_cons_zero, List.set_cons_succ])
  refine wpAnyH_take (i := 10) (oi := ue10) (v := ?_) rfl (by kernel_rfl) (by kernel_rfl) (by kernel_rfl) (fun _ _ _ h => h) (Or.inl ⟨by rfl, ?_⟩) (by assumption) ?_
  rotate_left 1
  focus ((intro wS hSw; (try dsimp only at hSw); go_simp) <;> (try with_reducible rfl))
  simp only [Act.put, List.setIfInBounds_toArray, List.set_cons_zero, List.set_cons_succ]
  refine wpAnyH_ready (rs := [13, 20]) (by kernel_rfl) (by simp) ?_
  refine AllReadyH.cons (o := ue13) rfl (fun K hK => ?_) ?rdy4
  case rdy4 =>
    refine AllReadyH.cons (o := ue20) rfl (fun K hK => ?_) AllReadyH.nil
    go_simp
    obtain ⟨w11, hw11⟩ := named (w10.alloc (.cells #[.int .u8 T] 5 (0, 0)))
    rw [← hw11.out]
    have b11 : Below w10.heap.size w10 w11 := by rw [hw11.out]; exact (Below.refl _ _).alloc (Nat.le_refl _) _
    have BA11 := Lib.hid (BA10.out.trans (b11.mono BA10.out.size))
    obtain ⟨g4, hg4⟩ := named w10.heap.size
    have KD : Hid (∀ w', Below w11.heap.size w11 w' → (fun w' => (convert 25 9 (.slice (some ⟨g4, 0, none⟩) 1 1)).run Tryz.prog w' = .ok (.string ST) w' ∧ w'.cell? ⟨w.heap.size, 0, none⟩ = some (.int .u8 T) ∧ w'.cell? ⟨w.heap.size, 1, none⟩ = some (.string nm) ∧ w'.cell? ⟨w.heap.size, 2, none⟩ = some (.string pf) ∧ w'.cell? ⟨w.heap.size, 3, none⟩ = some (.string lk) ∧ w'.cell? ⟨w.heap.size, 4, none⟩ = some (.int .i64 md) ∧ w'.cell? ⟨w.heap.size, 5, none⟩ = some (.int .i64 sz)) w') := by rw [hg4.out]; exact KDL.out w10 w11 (by rw [hw11.out]) BA11.out
    clear b11
    refine hK.out _ _ (KC.out _ BA11.out) (fun hHeld => ?_)
    clear hK K
    (try simp only [Act.put, List.setIfInBounds_toArray, List.set_cons_zero, List.set_cons_succ])
    rw [← hg4.out]
    refine wpAnyH_switch (S2 := (fun w' => (convert 25 9 (.slice (some ⟨g4, 0, none⟩) 1 1)).run Tryz.prog w' = .ok (.string ST) w' ∧ w'.cell? ⟨w.heap.size, 0, none⟩ = some (.int .u8 T) ∧ w'.cell? ⟨w.heap.size, 1, none⟩ = some (.string nm) ∧ w'.cell? ⟨w.heap.size, 2, none⟩ = some (.string pf) ∧ w'.cell? ⟨w.heap.size, 3, none⟩ = some (.string lk) ∧ w'.cell? ⟨w.heap.size, 4, none⟩ = some (.int .i64 md) ∧ w'.cell? ⟨w.heap.size, 5, none⟩ = some (.int .i64 sz))) (fun _ h => h.2) ?_
    have hHeld := KD.out w11 (Below.refl _ _)
    refine wpAnyH_take (i := 21) (oi := ue21) (v := ?_) rfl (by kernel_rfl) (by kernel_rfl) (by kernel_rfl) (fun _ _ _ h => h) (Or.inl ⟨by rfl, ?_⟩) (by assumption) ?_
    rotate_left 1
    focus ((intro wS hSw; (try dsimp only at hSw); go_simp) <;> (try with_reducible rfl))
    simp only [Act.put, List.setIfInBounds_toArray, List.set_cons_zero, List.set_cons_succ]
    refine wpAnyH_listed (l := #[true, true, true, true, true, true, true, true, true, true, true, true, true, false, false, false, false, false, true, true, true, true, false, true, true, false, false, false, false, false, false, false, false, false, false, false, true, true, false, false, false, false, false]) (by kernel_rfl) ?_
    have KDn := Lib.hid (KD.out)
    have BAn := Lib.hid BA11.out
    revert KDn BAn
    exact X4 w11 g4
  go_simp
  refine (N3.out w10).mono ?_; rintro e w12 ⟨rfl, b⟩
  have BA12 := Lib.hid (BA10.out.trans (b.mono BA10.out.size))
  clear b
  go_wp2_with fail
  refine hK.out _ _ (KC.out _ BA12.out) (fun hHeld => ?_)
  clear hK K
  (try simp only [Act.put, List.setIfInBounds_toArray, List.set_cons_zero, List.set_cons_succ])
  refine wpAnyH_take (i := 14) (oi := ue14) (v := ?_) rfl (by kernel_rfl) (by kernel_rfl) (by kernel_rfl) (fun _ _ _ h => h) (Or.inl ⟨by rfl, ?_⟩) (by assumption) ?_
  rotate_left 1
  focus ((intro wS hSw; (try dsimp only at hSw); go_simp) <;> (try with_reducible rfl))
  simp only [Act.put, List.setIfInBounds_toArray, List.set_cons_zero, List.set_cons_succ]
  refine wpAnyH_ready (rs := [15, 20]) (by kernel_rfl) (by simp) ?_
  refine AllReadyH.cons (o := ue15) rfl (fun K hK => ?_) ?rdy5
  case rdy5 =>
    refine AllReadyH.cons (o := ue20) rfl (fun K hK => ?_) AllReadyH.nil
    go_simp
    obtain ⟨w13, hw13⟩ := named (w12.alloc (.cells #[.int .u8 T] 5 (0, 0)))
    rw [← hw13.out]
    have b13 : Below w12.heap.size w12 w13 := by rw [hw13.out]; exact (Below.refl _ _).alloc (Nat.le_refl _) _
    have BA13 := Lib.hid (BA12.out.trans (b13.mono BA12.out.size))
    obtain ⟨g5, hg5⟩ := named w12.heap.size
    have KD : Hid (∀ w', Below w13.heap.size w13 w' → (fun w' => (convert 25 9 (.slice (some ⟨g5, 0, none⟩) 1 1)).run Tryz.prog w' = .ok (.string ST) w' ∧ w'.cell? ⟨w.heap.size, 0, none⟩ = some (.int .u8 T) ∧ w'.cell? ⟨w.heap.size, 1, none⟩ = some (.string nm) ∧ w'.cell? ⟨w.heap.size, 2, none⟩ = some (.string pf) ∧ w'.cell? ⟨w.heap.size, 3, none⟩ = some (.string lk) ∧ w'.cell? ⟨w.heap.size, 4, none⟩ = some (.int .i64 md) ∧ w'.cell? ⟨w.heap.size, 5, none⟩ = some (.int .i64 sz)) w') := by rw [hg5.out]; exact KDL.out w12 w13 (by rw [hw13.out]) BA13.out
    clear b13
    refine hK.out _ _ (KC.out _ BA13.out) (fun hHeld => ?_)
    clear hK K
    (try simp only [Act.put, List.setIfInBounds_toArray, List.set_cons_zero, List.set_cons_succ])
    rw [← hg5.out]
    refine wpAnyH_switch (S2 := (fun w' => (convert 25 9 (.slice (some ⟨g5, 0, none⟩) 1 1)).run Tryz.prog w' = .ok (.string ST) w' ∧ w'.cell? ⟨w.heap.size, 0, none⟩ = some (.int .u8 T) ∧ w'.cell? ⟨w.heap.size, 1, none⟩ = some (.string nm) ∧ w'.cell? ⟨w.heap.size, 2, none⟩ = some (.string pf) ∧ w'.cell? ⟨w.heap.size, 3, none⟩ = some (.string lk) ∧ w'.cell? ⟨w.heap.size, 4, none⟩ = some (.int .i64 md) ∧ w'.cell? ⟨w.heap.size, 5, none⟩ = some (.int .i64 sz))) (fun _ h => h.2) ?_
    have hHeld := KD.out w13 (Below.refl _ _)
    refine wpAnyH_take (i := 21) (oi := ue21) (v := ?_) rfl (by kernel_rfl) (by kernel_rfl) (by kernel_rfl) (fun _ _ _ h => h) (Or.inl ⟨by rfl, ?_⟩) (by assumption) ?_
    rotate_left 1
    focus ((intro wS hSw; (try dsimp only at hSw); go_simp) <;> (try with_reducible rfl))
    simp only [Act.put, List.setIfInBounds_toArray, List.set_cons_zero, List.set_cons_succ]
    refine wpAnyH_listed (l := #[true, true, true, true, true, true, true, true, true, true, true, true, true, true, true, false, false, false, true, true, true, true, false, true, true, false, false, false, false, false, false, false, false, false, false, false, true, true, false, false, false, false, false]) (by kernel_rfl) ?_
    have KDn := Lib.hid (KD.out)
    have BAn := Lib.hid BA13.out
    revert KDn BAn
    exact X5 w13 g5
  go_simp
  refine (N12.out w12).mono ?_; rintro e w14 ⟨rfl, b⟩
  have BA14 := Lib.hid (BA12.out.trans (b.mono BA12.out.size))
  clear b
  go_wp2_with fail
  refine hK.out _ _ (KC.out _ BA14.out) (fun hHeld => ?_)
  clear hK K
  (try simp only [Act.put, List.setIfInBounds_toArray, List.set_cons_zero, List.set_cons_succ])
  refine wpAnyH_take (i := 16) (oi := ue16) (v := ?_) rfl (by kernel_rfl) (by kernel_rfl) (by kernel_rfl) (fun _ _ _ h => h) (Or.inl ⟨by rfl, ?_⟩) (by assumption) ?_
  rotate_left 1
  focus ((intro wS hSw; (try dsimp only at hSw); go_simp) <;> (try with_reducible rfl))
  simp only [Act.put, List.setIfInBounds_toArray, List.set_cons_zero, List.set_cons_succ]
  refine wpAnyH_take (i := 17) (oi := ue17) (v := ?_) rfl (by kernel_rfl) (by kernel_rfl) (by kernel_rfl) (fun _ _ _ h => h) (Or.inl ⟨by rfl, ?_⟩) (by assumption) ?_
  rotate_left 1
  focus ((intro wS hSw; (try dsimp only at hSw); go_simp) <;> (try with_reducible rfl))
  simp only [Act.put, List.setIfInBounds_toArray, List.set_cons_zero, List.set_cons_succ]
  refine wpAnyH_ready (rs := [20, 25]) (by kernel_rfl) (by simp) ?_
  refine AllReadyH.cons (o := ue20) rfl (fun K hK => ?_) ?_
  · skip
    go_simp
    obtain ⟨w15, hw15⟩ := named (w14.alloc (.cells #[.int .u8 T] 5 (0, 0)))
    rw [← hw15.out]
    have b15 : Below w14.heap.size w14 w15 := by rw [hw15.out]; exact (Below.refl _ _).alloc (Nat.le_refl _) _
    have BA15 := Lib.hid (BA14.out.trans (b15.mono BA14.out.size))
    obtain ⟨g6, hg6⟩ := named w14.heap.size
    have KD : Hid (∀ w', Below w15.heap.size w15 w' → (fun w' => (convert 25 9 (.slice (some ⟨g6, 0, none⟩) 1 1)).run Tryz.prog w' = .ok (.string ST) w' ∧ w'.cell? ⟨w.heap.size, 0, none⟩ = some (.int .u8 T) ∧ w'.cell? ⟨w.heap.size, 1, none⟩ = some (.string nm) ∧ w'.cell? ⟨w.heap.size, 2, none⟩ = some (.string pf) ∧ w'.cell? ⟨w.heap.size, 3, none⟩ = some (.string lk) ∧ w'.cell? ⟨w.heap.size, 4, none⟩ = some (.int .i64 md) ∧ w'.cell? ⟨w.heap.size, 5, none⟩ = some (.int .i64 sz)) w') := by rw [hg6.out]; exact KDL.out w14 w15 (by rw [hw15.out]) BA15.out
    clear b15
    refine hK.out _ _ (KC.out _ BA15.out) (fun hHeld => ?_)
    clear hK K
    (try simp only [Act.put, List.setIfInBounds_toArray, List.set_cons_zero, List.set_cons_succ])
    rw [← hg6.out]
    refine wpAnyH_switch (S2 := (fun w' => (convert 25 9 (.slice (some ⟨g6, 0, none⟩) 1 1)).run Tryz.prog w' = .ok (.string ST) w' ∧ w'.cell? ⟨w.heap.size, 0, none⟩ = some (.int .u8 T) ∧ w'.cell? ⟨w.heap.size, 1, none⟩ = some (.string nm) ∧ w'.cell? ⟨w.heap.size, 2, none⟩ = some (.string pf) ∧ w'.cell? ⟨w.heap.size, 3, none⟩ = some (.string lk) ∧ w'.cell? ⟨w.heap.size, 4, none⟩ = some (.int .i64 md) ∧ w'.cell? ⟨w.heap.size, 5, none⟩ = some (.int .i64 sz))) (fun _ h => h.2) ?_
    have hHeld := KD.out w15 (Below.refl _ _)
    refine wpAnyH_take (i := 21) (oi := ue21) (v := ?_) rfl (by kernel_rfl) (by kernel_rfl) (by kernel_rfl) (fun _ _ _ h => h) (Or.inl ⟨by rfl, ?_⟩) (by assumption) ?_
    rotate_left 1
    focus ((intro wS hSw; (try dsimp only at hSw); go_simp) <;> (try with_reducible rfl))
    simp only [Act.put, List.setIfInBounds_toArray, List.set_cons_zero, List.set_cons_succ]
    refine wpAnyH_take (i := 22) (oi := ue22) (v := ?_) rfl (by kernel_rfl) (by kernel_rfl) (by kernel_rfl) (fun _ _ _ h => h) (Or.inl ⟨by rfl, ?_⟩) (by assumption) ?_
    rotate_left 1
    focus ((intro wS hSw; (try dsimp only at hSw); go_simp) <;> (try with_reducible rfl))
    simp only [Act.put, List.setIfInBounds_toArray, List.set_cons_zero, List.set_cons_succ]
    refine wpAnyH_listed (l := #[true, true, true, true, true, true, true, true, true, true, true, true, true, true, true, true, true, true, true, true, true, true, true, true, true, false, false, false, false, false, false, false, false, false, false, false, true, true, false, false, false, false, false]) (by kernel_rfl) ?_
    have KDn := Lib.hid (KD.out)
    have BAn := Lib.hid BA15.out
    revert KDn BAn
    exact X6 w15 g6
  refine AllReadyH.cons (o := ue25) rfl (fun K hK => ?_) AllReadyH.nil
  go_simp
  refine (N4.out w14).mono ?_; rintro e w16 ⟨rfl, b⟩
  have BA16 := Lib.hid (BA14.out.trans (b.mono BA14.out.size))
  clear b
  go_wp2_with fail
  refine hK.out _ _ (KC.out _ BA16.out) (fun hHeld => ?_)
  clear hK K
  (try simp only [Act.put, List.setIfInBounds_toArray, List.set_cons_zero, List.set_cons_succ])
  refine wpAnyH_ready (rs := [20, 28]) (by kernel_rfl) (by simp) ?_
  refine AllReadyH.cons (o := ue20) rfl (fun K hK => ?_) ?_
  · skip
    go_simp
    obtain ⟨w17, hw17⟩ := named (w16.alloc (.cells #[.int .u8 T] 5 (0, 0)))
    rw [← hw17.out]
    have b17 : Below w16.heap.size w16 w17 := by rw [hw17.out]; exact (Below.refl _ _).alloc (Nat.le_refl _) _
    have BA17 := Lib.hid (BA16.out.trans (b17.mono BA16.out.size))
    obtain ⟨g7, hg7⟩ := named w16.heap.size
    have KD : Hid (∀ w', Below w17.heap.size w17 w' → (fun w' => (convert 25 9 (.slice (some ⟨g7, 0, none⟩) 1 1)).run Tryz.prog w' = .ok (.string ST) w' ∧ w'.cell? ⟨w.heap.size, 0, none⟩ = some (.int .u8 T) ∧ w'.cell? ⟨w.heap.size, 1, none⟩ = some (.string nm) ∧ w'.cell? ⟨w.heap.size, 2, none⟩ = some (.string pf) ∧ w'.cell? ⟨w.heap.size, 3, none⟩ = some (.string lk) ∧ w'.cell? ⟨w.heap.size, 4, none⟩ = some (.int .i64 md) ∧ w'.cell? ⟨w.heap.size, 5, none⟩ = some (.int .i64 sz)) w') := by rw [hg7.out]; exact KDL.out w16 w17 (by rw [hw17.out]) BA17.out
    clear b17
    refine hK.out _ _ (KC.out _ BA17.out) (fun hHeld => ?_)
    clear hK K
    (try simp only [Act.put, List.setIfInBounds_toArray, List.set_cons_zero, List.set_cons_succ])
    rw [← hg7.out]
    refine wpAnyH_switch (S2 := (fun w' => (convert 25 9 (.slice (some ⟨g7, 0, none⟩) 1 1)).run Tryz.prog w' = .ok (.string ST) w' ∧ w'.cell? ⟨w.heap.size, 0, none⟩ = some (.int .u8 T) ∧ w'.cell? ⟨w.heap.size, 1, none⟩ = some (.string nm) ∧ w'.cell? ⟨w.heap.size, 2, none⟩ = some (.string pf) ∧ w'.cell? ⟨w.heap.size, 3, none⟩ = some (.string lk) ∧ w'.cell? ⟨w.heap.size, 4, none⟩ = some (.int .i64 md) ∧ w'.cell? ⟨w.heap.size, 5, none⟩ = some (.int .i64 sz))) (fun _ h => h.2) ?_
    have hHeld := KD.out w17 (Below.refl _ _)
    refine wpAnyH_take (i := 21) (oi := ue21) (v := ?_) rfl (by kernel_rfl) (by kernel_rfl) (by kernel_rfl) (fun _ _ _ h => h) (Or.inl ⟨by rfl, ?_⟩) (by assumption) ?_
    rotate_left 1
    focus ((intro wS hSw; (try dsimp only at hSw); go_simp) <;> (try with_reducible rfl))
    simp only [Act.put, List.setIfInBounds_toArray, List.set_cons_zero, List.set_cons_succ]
    refine wpAnyH_take (i := 22) (oi := ue22) (v := ?_) rfl (by kernel_rfl) (by kernel_rfl) (by kernel_rfl) (fun _ _ _ h => h) (Or.inl ⟨by rfl, ?_⟩) (by assumption) ?_
    rotate_left 1
    focus ((intro wS hSw; (try dsimp only at hSw); go_simp) <;> (try with_reducible rfl))
    simp only [Act.put, List.setIfInBounds_toArray, List.set_cons_zero, List.set_cons_succ]
    refine wpAnyH_take (i := 26) (oi := ue26) (v := ?_) rfl (by kernel_rfl) (by kernel_rfl) (by kernel_rfl) (fun _ _ _ h => h) (Or.inl ⟨by rfl, ?_⟩) (by assumption) ?_
    rotate_left 1
    focus ((intro wS hSw; (try dsimp only at hSw); go_simp) <;> (try with_reducible rfl))
    simp only [Act.put, List.setIfInBounds_toArray, List.set_cons_zero, List.set_cons_succ]
    refine wpAnyH_take (i := 27) (oi := ue27) (v := ?_) rfl (by kernel_rfl) (by kernel_rfl) (by kernel_rfl) (fun _ _ _ h => h) (Or.inl ⟨by rfl, ?_⟩) (by assumption) ?_
    rotate_left 1
    focus ((intro wS hSw; (try dsimp only at hSw); go_simp) <;> (try with_reducible rfl))
    simp only [Act.put, List.setIfInBounds_toArray, List.set_cons_zero, List.set_cons_succ]
    refine wpAnyH_listed (l := #[true, true, true, true, true, true, true, true, true, true, true, true, true, true, true, true, true, true, true, true, true, true, true, true, true, true, true, true, false, false, false, false, false, false, false, false, true, true, false, false, false, false, false]) (by kernel_rfl) ?_
    have KDn := Lib.hid (KD.out)
    have BAn := Lib.hid BA17.out
    revert KDn BAn
    exact X7 w17 g7
  refine AllReadyH.cons (o := ue28) rfl (fun K hK => ?_) AllReadyH.nil
  go_simp
  refine (N32.out w16).mono ?_; rintro e w18 ⟨rfl, b⟩
  have BA18 := Lib.hid (BA16.out.trans (b.mono BA16.out.size))
  clear b
  go_wp2_with fail
  refine hK.out _ _ (KC.out _ BA18.out) (fun hHeld => ?_)
  clear hK K
  (try simp only [Act.put, List.setIfInBounds_toArray, List.set_cons_zero, List.set_cons_succ])
  refine wpAnyH_ready (rs := [20, 30]) (by kernel_rfl) (by simp) ?_
  refine AllReadyH.cons (o := ue20) rfl (fun K hK => ?_) ?_
  · skip
    go_simp
    obtain ⟨w19, hw19⟩ := named (w18.alloc (.cells #[.int .u8 T] 5 (0, 0)))
    rw [← hw19.out]
    have b19 : Below w18.heap.size w18 w19 := by rw [hw19.out]; exact (Below.refl _ _).alloc (Nat.le_refl _) _
    have BA19 := Lib.hid (BA18.out.trans (b19.mono BA18.out.size))
    obtain ⟨g8, hg8⟩ := named w18.heap.size
    have KD : Hid (∀ w', Below w19.heap.size w19 w' → (fun w' => (convert 25 9 (.slice (some ⟨g8, 0, none⟩) 1 1)).run Tryz.prog w' = .ok (.string ST) w' ∧ w'.cell? ⟨w.heap.size, 0, none⟩ = some (.int .u8 T) ∧ w'.cell? ⟨w.heap.size, 1, none⟩ = some (.string nm) ∧ w'.cell? ⟨w.heap.size, 2, none⟩ = some (.string pf) ∧ w'.cell? ⟨w.heap.size, 3, none⟩ = some (.string lk) ∧ w'.cell? ⟨w.heap.size, 4, none⟩ = some (.int .i64 md) ∧ w'.cell? ⟨w.heap.size, 5, none⟩ = some (.int .i64 sz)) w') := by rw [hg8.out]; exact KDL.out w18 w19 (by rw [hw19.out]) BA19.out
    clear b19
    refine hK.out _ _ (KC.out _ BA19.out) (fun hHeld => ?_)
    clear hK K
    (try simp only [Act.put, List.setIfInBounds_toArray, List.set_cons_zero, List.set_cons_succ])
    rw [← hg8.out]
    refine wpAnyH_switch (S2 := (fun w' => (convert 25 9 (.slice (some ⟨g8, 0, none⟩) 1 1)).run Tryz.prog w' = .ok (.string ST) w' ∧ w'.cell? ⟨w.heap.size, 0, none⟩ = some (.int .u8 T) ∧ w'.cell? ⟨w.heap.size, 1, none⟩ = some (.string nm) ∧ w'.cell? ⟨w.heap.size, 2, none⟩ = some (.string pf) ∧ w'.cell? ⟨w.heap.size, 3, none⟩ = some (.string lk) ∧ w'.cell? ⟨w.heap.size, 4, none⟩ = some (.int .i64 md) ∧ w'.cell? ⟨w.heap.size, 5, none⟩ = some (.int .i64 sz))) (fun _ h => h.2) ?_
    have hHeld := KD.out w19 (Below.refl _ _)
    refine wpAnyH_take (i := 21) (oi := ue21) (v := ?_) rfl (by kernel_rfl) (by kernel_rfl) (by kernel_rfl) (fun _ _ _ h => h) (Or.inl ⟨by rfl, ?_⟩) (by assumption) ?_
    rotate_left 1
    focus ((intro wS hSw; (try dsimp only at hSw); go_simp) <;> (try with_reducible rfl))
    simp only [Act.put, List.setIfInBounds_toArray, List.set_cons_zero, List.set_cons_succ]
    refine wpAnyH_take (i := 22) (oi := ue22) (v := ?_) rfl (by kernel_rfl) (by kernel_rfl) (by kernel_rfl) (fun _ _ _ h => h) (Or.inl ⟨by rfl, ?_⟩) (by assumption) ?_
    rotate_left 1
    focus ((intro wS hSw; (try dsimp only at hSw); go_simp) <;> (try with_reducible rfl))
    simp only [Act.put, List.setIfInBounds_toArray, List.set_cons_zero, List.set_cons_succ]
    refine wpAnyH_take (i := 26) (oi := ue26) (v := ?_) rfl (by kernel_rfl) (by kernel_rfl) (by kernel_rfl) (fun _ _ _ h => h) (Or.inl ⟨by rfl, ?_⟩) (by assumption) ?_
    rotate_left 1
    focus ((intro wS hSw; (try dsimp only at hSw); go_simp) <;> (try with_reducible rfl))
    simp only [Act.put, List.setIfInBounds_toArray, List.set_cons_zero, List.set_cons_succ]
    refine wpAnyH_take (i := 27) (oi := ue27) (v := ?_) rfl (by kernel_rfl) (by kernel_rfl) (by kernel_rfl) (fun _ _ _ h => h) (Or.inl ⟨by rfl, ?_⟩) (by assumption) ?_
    rotate_left 1
    focus ((intro wS hSw; (try dsimp only at hSw); go_simp) <;> (try with_reducible rfl))
    simp only [Act.put, List.setIfInBounds_toArray, List.set_cons_zero, List.set_cons_succ]
    refine wpAnyH_take (i := 29) (oi := ue29) (v := ?_) rfl (by kernel_rfl) (by kernel_rfl) (by kernel_rfl) (fun _ _ _ h => h) (Or.inl ⟨by rfl, ?_⟩) (by assumption) ?_
    rotate_left 1
    focus ((intro wS hSw; (try dsimp only at hSw); go_simp) <;> (try with_reducible rfl))
    simp only [Act.put, List.setIfInBounds_toArray, List.set_cons_zero, List.set_cons_succ]
    refine wpAnyH_listed (l := #[true, true, true, true, true, true, true, true, true, true, true, true, true, true, true, true, true, true, true, true, true, true, true, true, true, true, true, true, true, true, false, false, false, false, false, false, true, true, false, false, false, false, false]) (by kernel_rfl) ?_
    have KDn := Lib.hid (KD.out)
    have BAn := Lib.hid BA19.out
    revert KDn BAn
    exact X8 w19 g8
  refine AllReadyH.cons (o := ue30) rfl (fun K hK => ?_) AllReadyH.nil
  go_simp
  refine (N32.out w18).mono ?_; rintro e w20 ⟨rfl, b⟩
  have BA20 := Lib.hid (BA18.out.trans (b.mono BA18.out.size))
  clear b
  go_wp2_with fail
  refine hK.out _ _ (KC.out _ BA20.out) (fun hHeld => ?_)
  clear hK K
  (try simp only [Act.put, List.setIfInBounds_toArray, List.set_cons_zero, List.set_cons_succ])
  refine wpAnyH_ready (rs := [20, 32]) (by kernel_rfl) (by simp) ?_
  refine AllReadyH.cons (o := ue20) rfl (fun K hK => ?_) ?_
  · skip
    go_simp
    obtain ⟨w21, hw21⟩ := named (w20.alloc (.cells #[.int .u8 T] 5 (0, 0)))
    rw [← hw21.out]
    have b21 : Below w20.heap.size w20 w21 := by rw [hw21.out]; exact (Below.refl _ _).alloc (Nat.le_refl _) _
    have BA21 := Lib.hid (BA20.out.trans (b21.mono BA20.out.size))
    obtain ⟨g9, hg9⟩ := named w20.heap.size
    have KD : Hid (∀ w', Below w21.heap.size w21 w' → (fun w' => (convert 25 9 (.slice (some ⟨g9, 0, none⟩) 1 1)).run Tryz.prog w' = .ok (.string ST) w' ∧ w'.cell? ⟨w.heap.size, 0, none⟩ = some (.int .u8 T) ∧ w'.cell? ⟨w.heap.size, 1, none⟩ = some (.string nm) ∧ w'.cell? ⟨w.heap.size, 2, none⟩ = some (.string pf) ∧ w'.cell? ⟨w.heap.size, 3, none⟩ = some (.string lk) ∧ w'.cell? ⟨w.heap.size, 4, none⟩ = some (.int .i64 md) ∧ w'.cell? ⟨w.heap.size, 5, none⟩ = some (.int .i64 sz)) w') := by rw [hg9.out]; exact KDL.out w20 w21 (by rw [hw21.out]) BA21.out
    clear b21
    refine hK.out _ _ (KC.out _ BA21.out) (fun hHeld => ?_)
    clear hK K
    (try simp only [Act.put, List.setIfInBounds_toArray, List.set_cons_zero, List.set_cons_succ])
    rw [← hg9.out]
    refine wpAnyH_switch (S2 := (fun w' => (convert 25 9 (.slice (some ⟨g9, 0, none⟩) 1 1)).run Tryz.prog w' = .ok (.string ST) w' ∧ w'.cell? ⟨w.heap.size, 0, none⟩ = some (.int .u8 T) ∧ w'.cell? ⟨w.heap.size, 1, none⟩ = some (.string nm) ∧ w'.cell? ⟨w.heap.size, 2, none⟩ = some (.string pf) ∧ w'.cell? ⟨w.heap.size, 3, none⟩ = some (.string lk) ∧ w'.cell? ⟨w.heap.size, 4, none⟩ = some (.int .i64 md) ∧ w'.cell? ⟨w.heap.size, 5, none⟩ = some (.int .i64 sz))) (fun _ h => h.2) ?_
    have hHeld := KD.out w21 (Below.refl _ _)
    refine wpAnyH_take (i := 21) (oi := ue21) (v := ?_) rfl (by kernel_rfl) (by kernel_rfl) (by kernel_rfl) (fun _ _ _ h => h) (Or.inl ⟨by rfl, ?_⟩) (by assumption) ?_
    rotate_left 1
    focus ((intro wS hSw; (try dsimp only at hSw); go_simp) <;> (try with_reducible rfl))
    simp only [Act.put, List.setIfInBounds_toArray, List.set_cons_zero, List.set_cons_succ]
    refine wpAnyH_take (i := 22) (oi := ue22) (v := ?_) rfl (by kernel_rfl) (by kernel_rfl) (by kernel_rfl) (fun _ _ _ h => h) (Or.inl ⟨by rfl, ?_⟩) (by assumption) ?_
    rotate_left 1
    focus ((intro wS hSw; (try dsimp only at hSw); go_simp) <;> (try with_reducible rfl))
    simp only [Act.put, List.setIfInBounds_toArray, List.set_cons_zero, List.set_cons_succ]
    refine wpAnyH_take (i := 26) (oi := ue26) (v := ?_) rfl (by kernel_rfl) (by kernel_rfl) (by kernel_rfl) (fun _ _ _ h => h) (Or.inl ⟨by rfl, ?_⟩) (by assumption) ?_
    rotate_left 1
    focus ((intro wS hSw; (try dsimp only at hSw); go_simp) <;> (try with_reducible rfl))
    simp only [Act.put, List.setIfInBounds_toArray, List.set_cons_zero, List.set_cons_succ]
    refine wpAnyH_take (i := 27) (oi := ue27) (v := ?_) rfl (by kernel_rfl) (by kernel_rfl) (by kernel_rfl) (fun _ _ _ h => h) (Or.inl ⟨by rfl, ?_⟩) (by assumption) ?_
    rotate_left 1
    focus ((intro wS hSw; (try dsimp only at hSw); go_simp) <;> (try with_reducible rfl))
    simp only [Act.put, List.setIfInBounds_toArray, List.set_cons_zero, List.set_cons_succ]
    refine wpAnyH_take (i := 29) (oi := ue29) (v := ?_) rfl (by kernel_rfl) (by kernel_rfl) (by kernel_rfl) (fun _ _ _ h => h) (Or.inl ⟨by rfl, ?_⟩) (by assumption) ?_
    rotate_left 1
    focus ((intro wS hSw; (try dsimp only at hSw); go_simp) <;> (try with_reducible rfl))
    simp only [Act.put, List.setIfInBounds_toArray, List.set_cons_zero, List.set_cons_succ]
    refine wpAnyH_take (i := 31) (oi := ue31) (v := ?_) rfl (by kernel_rfl) (by kernel_rfl) (by kernel_rfl) (fun _ _ _ h => h) (Or.inl ⟨by rfl, ?_⟩) (by assumption) ?_
    rotate_left 1
    focus ((intro wS hSw; (try dsimp only at hSw); go_simp) <;> (try with_reducible rfl))
    simp only [Act.put, List.setIfInBounds_toArray, List.set_cons_zero, List.set_cons_succ]
    refine wpAnyH_listed (l := #[true, true, true, true, true, true, true, true, true, true, true, true, true, true, true, true, true, true, true, true, true, true, true, true, true, true, true, true, true, true, true, true, false, false, false, false, true, true, false, false, false, false, false]) (by kernel_rfl) ?_
    have KDn := Lib.hid (KD.out)
    have BAn := Lib.hid BA21.out
    revert KDn BAn
    exact X9 w21 g9
  refine AllReadyH.cons (o := ue32) rfl (fun K hK => ?_) AllReadyH.nil
  go_simp
  refine (N8.out w20).mono ?_; rintro e w22 ⟨rfl, b⟩
  have BA22 := Lib.hid (BA20.out.trans (b.mono BA20.out.size))
  clear b
  go_wp2_with fail
  refine hK.out _ _ (KC.out _ BA22.out) (fun hHeld => ?_)
  clear hK K
  (try simp only [Act.put, List.setIfInBounds_toArray, List.set_cons_zero, List.set_cons_succ])
  refine wpAnyH_ready (rs := [20, 34]) (by kernel_rfl) (by simp) ?_
  refine AllReadyH.cons (o := ue20) rfl (fun K hK => ?_) ?_
  · skip
    go_simp
    obtain ⟨w23, hw23⟩ := named (w22.alloc (.cells #[.int .u8 T] 5 (0, 0)))
    rw [← hw23.out]
    have b23 : Below w22.heap.size w22 w23 := by rw [hw23.out]; exact (Below.refl _ _).alloc (Nat.le_refl _) _
    have BA23 := Lib.hid (BA22.out.trans (b23.mono BA22.out.size))
    obtain ⟨g10, hg10⟩ := named w22.heap.size
    have KD : Hid (∀ w', Below w23.heap.size w23 w' → (fun w' => (convert 25 9 (.slice (some ⟨g10, 0, none⟩) 1 1)).run Tryz.prog w' = .ok (.string ST) w' ∧ w'.cell? ⟨w.heap.size, 0, none⟩ = some (.int .u8 T) ∧ w'.cell? ⟨w.heap.size, 1, none⟩ = some (.string nm) ∧ w'.cell? ⟨w.heap.size, 2, none⟩ = some (.string pf) ∧ w'.cell? ⟨w.heap.size, 3, none⟩ = some (.string lk) ∧ w'.cell? ⟨w.heap.size, 4, none⟩ = some (.int .i64 md) ∧ w'.cell? ⟨w.heap.size, 5, none⟩ = some (.int .i64 sz)) w') := by rw [hg10.out]; exact KDL.out w22 w23 (by rw [hw23.out]) BA23.out
    clear b23
    refine hK.out _ _ (KC.out _ BA23.out) (fun hHeld => ?_)
    clear hK K
    (try simp only [Act.put, List.setIfInBounds_toArray, List.set_cons_zero, List.set_cons_succ])
    rw [← hg10.out]
    refine wpAnyH_switch (S2 := (fun w' => (convert 25 9 (.slice (some ⟨g10, 0, none⟩) 1 1)).run Tryz.prog w' = .ok (.string ST) w' ∧ w'.cell? ⟨w.heap.size, 0, none⟩ = some (.int .u8 T) ∧ w'.cell? ⟨w.heap.size, 1, none⟩ = some (.string nm) ∧ w'.cell? ⟨w.heap.size, 2, none⟩ = some (.string pf) ∧ w'.cell? ⟨w.heap.size, 3, none⟩ = some (.string lk) ∧ w'.cell? ⟨w.heap.size, 4, none⟩ = some (.int .i64 md) ∧ w'.cell? ⟨w.heap.size, 5, none⟩ = some (.int .i64 sz))) (fun _ h => h.2) ?_
    have hHeld := KD.out w23 (Below.refl _ _)
    refine wpAnyH_take (i := 21) (oi := ue21) (v := ?_) rfl (by kernel_rfl) (by kernel_rfl) (by kernel_rfl) (fun _ _ _ h => h) (Or.inl ⟨by rfl, ?_⟩) (by assumption) ?_
    rotate_left 1
    focus ((intro wS hSw; (try dsimp only at hSw); go_simp) <;> (try with_reducible rfl))
    simp only [Act.put, List.setIfInBounds_toArray, List.set_cons_zero, List.set_cons_succ]
    refine wpAnyH_take (i := 22) (oi := ue22) (v := ?_) rfl (by kernel_rfl) (by kernel_rfl) (by kernel_rfl) (fun _ _ _ h => h) (Or.inl ⟨by rfl, ?_⟩) (by assumption) ?_
    rotate_left 1
    focus ((intro wS hSw; (try dsimp only at hSw); go_simp) <;> (try with_reducible rfl))
    simp only [Act.put, List.setIfInBounds_toArray, List.set_cons_zero, List.set_cons_succ]
    refine wpAnyH_take (i := 26) (oi := ue26) (v := ?_) rfl (by kernel_rfl) (by kernel_rfl) (by kernel_rfl) (fun _ _ _ h => h) (Or.inl ⟨by rfl, ?_⟩) (by assumption) ?_
    rotate_left 1
    focus ((intro wS hSw; (try dsimp only at hSw); go_simp) <;> (try with_reducible rfl))
    simp only [Act.put, List.setIfInBounds_toArray, List.set_cons_zero, List.set_cons_succ]
    refine wpAnyH_take (i := 27) (oi := ue27) (v := ?_) rfl (by kernel_rfl) (by kernel_rfl) (by kernel_rfl) (fun _ _ _ h => h) (Or.inl ⟨by rfl, ?_⟩) (by assumption) ?_
    rotate_left 1
    focus ((intro wS hSw; (try dsimp only at hSw); go_simp) <;> (try with_reducible rfl))
    simp only [Act.put, List.setIfInBounds_toArray, List.set_cons_zero, List.set_cons_succ]
    refine wpAnyH_take (i := 29) (oi := ue29) (v := ?_) rfl (by kernel_rfl) (by kernel_rfl) (by kernel_rfl) (fun _ _ _ h => h) (Or.inl ⟨by rfl, ?_⟩) (by assumption) ?_
    rotate_left 1
    focus ((intro wS hSw; (try dsimp only at hSw); go_simp) <;> (try with_reducible rfl))
    simp only [Act.put, List.setIfInBounds_toArray, List.set_cons_zero, List.set_cons_succ]
    refine wpAnyH_take (i := 31) (oi := ue31) (v := ?_) rfl (by kernel_rfl) (by kernel_rfl) (by kernel_rfl) (fun _ _ _ h => h) (Or.inl ⟨by rfl, ?_⟩) (by assumption) ?_
    rotate_left 1
    focus ((intro wS hSw; (try dsimp only at hSw); go_simp) <;> (try with_reducible rfl))
    simp only [Act.put, List.setIfInBounds_toArray, List.set_cons_zero, List.set_cons_succ]
    refine wpAnyH_take (i := 33) (oi := ue33) (v := ?_) rfl (by kernel_rfl) (by kernel_rfl) (by kernel_rfl) (fun _ _ _ h => h) (Or.inl ⟨by rfl, ?_⟩) (by assumption) ?_
    rotate_left 1
    focus ((intro wS hSw; (try dsimp only at hSw); go_simp) <;> (try with_reducible rfl))
    simp only [Act.put, List.setIfInBounds_toArray, List.set_cons_zero, List.set_cons_succ]
    refine wpAnyH_listed (l := #[true, true, true, true, true, true, true, true, true, true, true, true, true, true, true, true, true, true, true, true, true, true, true, true, true, true, true, true, true, true, true, true, true, true, false, false, true, true, false, false, false, false, false]) (by kernel_rfl) ?_
    have KDn := Lib.hid (KD.out)
    have BAn := Lib.hid BA23.out
    revert KDn BAn
    exact X10 w23 g10
  refine AllReadyH.cons (o := ue34) rfl (fun K hK => ?_) AllReadyH.nil
  go_simp
  refine (N8.out w22).mono ?_; rintro e w24 ⟨rfl, b⟩
  have BA24 := Lib.hid (BA22.out.trans (b.mono BA22.out.size))
  clear b
  go_wp2_with fail
  refine hK.out _ _ (KC.out _ BA24.out) (fun hHeld => ?_)
  clear hK K
  (try simp only [Act.put, List.setIfInBounds_toArray, List.set_cons_zero, List.set_cons_succ])
  refine wpAnyH_ready (rs := [20, 38]) (by kernel_rfl) (by simp) ?_
  refine AllReadyH.cons (o := ue20) rfl (fun K hK => ?_) ?_
  · skip
    go_simp
    obtain ⟨w25, hw25⟩ := named (w24.alloc (.cells #[.int .u8 T] 5 (0, 0)))
    rw [← hw25.out]
    have b25 : Below w24.heap.size w24 w25 := by rw [hw25.out]; exact (Below.refl _ _).alloc (Nat.le_refl _) _
    have BA25 := Lib.hid (BA24.out.trans (b25.mono BA24.out.size))
    obtain ⟨g11, hg11⟩ := named w24.heap.size
    have KD : Hid (∀ w', Below w25.heap.size w25 w' → (fun w' => (convert 25 9 (.slice (some ⟨g11, 0, none⟩) 1 1)).run Tryz.prog w' = .ok (.string ST) w' ∧ w'.cell? ⟨w.heap.size, 0, none⟩ = some (.int .u8 T) ∧ w'.cell? ⟨w.heap.size, 1, none⟩ = some (.string nm) ∧ w'.cell? ⟨w.heap.size, 2, none⟩ = some (.string pf) ∧ w'.cell? ⟨w.heap.size, 3, none⟩ = some (.string lk) ∧ w'.cell? ⟨w.heap.size, 4, none⟩ = some (.int .i64 md) ∧ w'.cell? ⟨w.heap.size, 5, none⟩ = some (.int .i64 sz)) w') := by rw [hg11.out]; exact KDL.out w24 w25 (by rw [hw25.out]) BA25.out
    clear b25
    refine hK.out _ _ (KC.out _ BA25.out) (fun hHeld => ?_)
    clear hK K
    (try simp only [Act.put, List.setIfInBounds_toArray, List.set_cons_zero, List.set_cons_succ])
    rw [← hg11.out]
    refine wpAnyH_switch (S2 := (fun w' => (convert 25 9 (.slice (some ⟨g11, 0, none⟩) 1 1)).run Tryz.prog w' = .ok (.string ST) w' ∧ w'.cell? ⟨w.heap.size, 0, none⟩ = some (.int .u8 T) ∧ w'.cell? ⟨w.heap.size, 1, none⟩ = some (.string nm) ∧ w'.cell? ⟨w.heap.size, 2, none⟩ = some (.string pf) ∧ w'.cell? ⟨w.heap.size, 3, none⟩ = some (.string lk) ∧ w'.cell? ⟨w.heap.size, 4, none⟩ = some (.int .i64 md) ∧ w'.cell? ⟨w.heap.size, 5, none⟩ = some (.int .i64 sz))) (fun _ h => h.2) ?_
    have hHeld := KD.out w25 (Below.refl _ _)
    refine wpAnyH_take (i := 21) (oi := ue21) (v := ?_) rfl (by kernel_rfl) (by kernel_rfl) (by kernel_rfl) (fun _ _ _ h => h) (Or.inl ⟨by rfl, ?_⟩) (by assumption) ?_
    rotate_left 1
    focus ((intro wS hSw; (try dsimp only at hSw); go_simp) <;> (try with_reducible rfl))
    simp only [Act.put, List.setIfInBounds_toArray, List.set_cons_zero, List.set_cons_succ]
    refine wpAnyH_take (i := 22) (oi := ue22) (v := ?_) rfl (by kernel_rfl) (by kernel_rfl) (by kernel_rfl) (fun _ _ _ h => h) (Or.inl ⟨by rfl, ?_⟩) (by assumption) ?_
    rotate_left 1
    focus ((intro wS hSw; (try dsimp only at hSw); go_simp) <;> (try with_reducible rfl))
    simp only [Act.put, List.setIfInBounds_toArray, List.set_cons_zero, List.set_cons_succ]
    refine wpAnyH_take (i := 26) (oi := ue26) (v := ?_) rfl (by kernel_rfl) (by kernel_rfl) (by kernel_rfl) (fun _ _ _ h => h) (Or.inl ⟨by rfl, ?_⟩) (by assumption) ?_
    rotate_left 1
    focus ((intro wS hSw; (try dsimp only at hSw); go_simp) <;> (try with_reducible rfl))
    simp only [Act.put, List.setIfInBounds_toArray, List.set_cons_zero, List.set_cons_succ]
    refine wpAnyH_take (i := 27) (oi := ue27) (v := ?_) rfl (by kernel_rfl) (by kernel_rfl) (by kernel_rfl) (fun _ _ _ h => h) (Or.inl ⟨by rfl, ?_⟩) (by assumption) ?_
    rotate_left 1
    focus ((intro wS hSw; (try dsimp only at hSw); go_simp) <;> (try with_reducible rfl))
    simp only [Act.put, List.setIfInBounds_toArray, List.set_cons_zero, List.set_cons_succ]
    refine wpAnyH_take (i := 29) (oi := ue29) (v := ?_) rfl (by kernel_rfl) (by kernel_rfl) (by kernel_rfl) (fun _ _ _ h => h) (Or.inl ⟨by rfl, ?_⟩) (by assumption) ?_
    rotate_left 1
    focus ((intro wS hSw; (try dsimp only at hSw); go_simp) <;> (try with_reducible rfl))
    simp only [Act.put, List.setIfInBounds_toArray, List.set_cons_zero, List.set_cons_succ]
    refine wpAnyH_take (i := 31) (oi := ue31) (v := ?_) rfl (by kernel_rfl) (by kernel_rfl) (by kernel_rfl) (fun _ _ _ h => h) (Or.inl ⟨by rfl, ?_⟩) (by assumption) ?_
    rotate_left 1
    focus ((intro wS hSw; (try dsimp only at hSw); go_simp) <;> (try with_reducible rfl))
    simp only [Act.put, List.setIfInBounds_toArray, List.set_cons_zero, List.set_cons_succ]
    refine wpAnyH_take (i := 33) (oi := ue33) (v := ?_) rfl (by kernel_rfl) (by kernel_rfl) (by kernel_rfl) (fun _ _ _ h => h) (Or.inl ⟨by rfl, ?_⟩) (by assumption) ?_
    rotate_left 1
    focus ((intro wS hSw; (try dsimp only at hSw); go_simp) <;> (try with_reducible rfl))
    simp only [Act.put, List.setIfInBounds_toArray, List.set_cons_zero, List.set_cons_succ]
    refine wpAnyH_take (i := 35) (oi := ue35) (v := ?_) rfl (by kernel_rfl) (by kernel_rfl) (by kernel_rfl) (fun _ _ _ h => h) (Or.inl ⟨by rfl, ?_⟩) (by assumption) ?_
    rotate_left 1
    focus ((intro wS hSw; (try dsimp only at hSw); go_simp) <;> (try with_reducible rfl))
    simp only [Act.put, List.setIfInBounds_toArray, List.set_cons_zero, List.set_cons_succ]
    refine wpAnyH_listed (l := #[true, true, true, true, true, true, true, true, true, true, true, true, true, true, true, true, true, true, true, true, true, true, true, true, true, true, true, true, true, true, true, true, true, true, true, true, true, true, false, false, false, false, false]) (by kernel_rfl) ?_
    have KDn := Lib.hid (KD.out)
    have BAn := Lib.hid BA25.out
    revert KDn BAn
    exact X11 w25 g11
  refine AllReadyH.cons (o := ue38) rfl (fun K hK => ?_) AllReadyH.nil
  go_simp
  refine (N5.out w24).mono ?_; rintro e w26 ⟨rfl, b⟩
  have BA26 := Lib.hid (BA24.out.trans (b.mono BA24.out.size))
  clear b
  go_wp2_with fail
  refine hK.out _ _ (KC.out _ BA26.out) (fun hHeld => ?_)
  clear hK K
  (try simp only [Act.put, List.setIfInBounds_toArray, List.set_cons_zero, List.set_cons_succ])
  refine wpAnyH_ready (rs := [20, 40]) (by kernel_rfl) (by simp) ?_
  refine AllReadyH.cons (o := ue20) rfl (fun K hK => ?_) ?_
  · skip
    go_simp
    obtain ⟨w27, hw27⟩ := named (w26.alloc (.cells #[.int .u8 T] 5 (0, 0)))
    rw [← hw27.out]
    have b27 : Below w26.heap.size w26 w27 := by rw [hw27.out]; exact (Below.refl _ _).alloc (Nat.le_refl _) _
    have BA27 := Lib.hid (BA26.out.trans (b27.mono BA26.out.size))
    obtain ⟨g12, hg12⟩ := named w26.heap.size
    have KD : Hid (∀ w', Below w27.heap.size w27 w' → (fun w' => (convert 25 9 (.slice (some ⟨g12, 0, none⟩) 1 1)).run Tryz.prog w' = .ok (.string ST) w' ∧ w'.cell? ⟨w.heap.size, 0, none⟩ = some (.int .u8 T) ∧ w'.cell? ⟨w.heap.size, 1, none⟩ = some (.string nm) ∧ w'.cell? ⟨w.heap.size, 2, none⟩ = some (.string pf) ∧ w'.cell? ⟨w.heap.size, 3, none⟩ = some (.string lk) ∧ w'.cell? ⟨w.heap.size, 4, none⟩ = some (.int .i64 md) ∧ w'.cell? ⟨w.heap.size, 5, none⟩ = some (.int .i64 sz)) w') := by rw [hg12.out]; exact KDL.out w26 w27 (by rw [hw27.out]) BA27.out
    clear b27
    refine hK.out _ _ (KC.out _ BA27.out) (fun hHeld => ?_)
    clear hK K
    (try simp only [Act.put, List.setIfInBounds_toArray, List.set_cons_zero, List.set_cons_succ])
    rw [← hg12.out]
    refine wpAnyH_switch (S2 := (fun w' => (convert 25 9 (.slice (some ⟨g12, 0, none⟩) 1 1)).run Tryz.prog w' = .ok (.string ST) w' ∧ w'.cell? ⟨w.heap.size, 0, none⟩ = some (.int .u8 T) ∧ w'.cell? ⟨w.heap.size, 1, none⟩ = some (.string nm) ∧ w'.cell? ⟨w.heap.size, 2, none⟩ = some (.string pf) ∧ w'.cell? ⟨w.heap.size, 3, none⟩ = some (.string lk) ∧ w'.cell? ⟨w.heap.size, 4, none⟩ = some (.int .i64 md) ∧ w'.cell? ⟨w.heap.size, 5, none⟩ = some (.int .i64 sz))) (fun _ h => h.2) ?_
    have hHeld := KD.out w27 (Below.refl _ _)
    refine wpAnyH_take (i := 21) (oi := ue21) (v := ?_) rfl (by kernel_rfl) (by kernel_rfl) (by kernel_rfl) (fun _ _ _ h => h) (Or.inl ⟨by rfl, ?_⟩) (by assumption) ?_
    rotate_left 1
    focus ((intro wS hSw; (try dsimp only at hSw); go_simp) <;> (try with_reducible rfl))
    simp only [Act.put, List.setIfInBounds_toArray, List.set_cons_zero, List.set_cons_succ]
    refine wpAnyH_take (i := 22) (oi := ue22) (v := ?_) rfl (by kernel_rfl) (by kernel_rfl) (by kernel_rfl) (fun _ _ _ h => h) (Or.inl ⟨by rfl, ?_⟩) (by assumption) ?_
    rotate_left 1
    focus ((intro wS hSw; (try dsimp only at hSw); go_simp) <;> (try with_reducible rfl))
    simp only [Act.put, List.setIfInBounds_toArray, List.set_cons_zero, List.set_cons_succ]
    refine wpAnyH_take (i := 26) (oi := ue26) (v := ?_) rfl (by kernel_rfl) (by kernel_rfl) (by kernel_rfl) (fun _ _ _ h => h) (Or.inl ⟨by rfl, ?_⟩) (by assumption) ?_
    rotate_left 1
    focus ((intro wS hSw; (try dsimp only at hSw); go_simp) <;> (try with_reducible rfl))
    simp only [Act.put, List.setIfInBounds_toArray, List.set_cons_zero, List.set_cons_succ]
    refine wpAnyH_take (i := 27) (oi := ue27) (v := ?_) rfl (by kernel_rfl) (by kernel_rfl) (by kernel_rfl) (fun _ _ _ h => h) (Or.inl ⟨by rfl, ?_⟩) (by assumption) ?_
    rotate_left 1
    focus ((intro wS hSw; (try dsimp only at hSw); go_simp) <;> (try with_reducible rfl))
    simp only [Act.put, List.setIfInBounds_toArray, List.set_cons_zero, List.set_cons_succ]
    refine wpAnyH_take (i := 29) (oi := ue29) (v := ?_) rfl (by kernel_rfl) (by kernel_rfl) (by kernel_rfl) (fun _ _ _ h => h) (Or.inl ⟨by rfl, ?_⟩) (by assumption) ?_
    rotate_left 1
    focus ((intro wS hSw; (try dsimp only at hSw); go_simp) <;> (try with_reducible rfl))
    simp only [Act.put, List.setIfInBounds_toArray, List.set_cons_zero, List.set_cons_succ]
    refine wpAnyH_take (i := 31) (oi := ue31) (v := ?_) rfl (by kernel_rfl) (by kernel_rfl) (by kernel_rfl) (fun _ _ _ h => h) (Or.inl ⟨by rfl, ?_⟩) (by assumption) ?_
    rotate_left 1
    focus ((intro wS hSw; (try dsimp only at hSw); go_simp) <;> (try with_reducible rfl))
    simp only [Act.put, List.setIfInBounds_toArray, List.set_cons_zero, List.set_cons_succ]
    refine wpAnyH_take (i := 33) (oi := ue33) (v := ?_) rfl (by kernel_rfl) (by kernel_rfl) (by kernel_rfl) (fun _ _ _ h => h) (Or.inl ⟨by rfl, ?_⟩) (by assumption) ?_
    rotate_left 1
    focus ((intro wS hSw; (try dsimp only at hSw); go_simp) <;> (try with_reducible rfl))
    simp only [Act.put, List.setIfInBounds_toArray, List.set_cons_zero, List.set_cons_succ]
    refine wpAnyH_take (i := 35) (oi := ue35) (v := ?_) rfl (by kernel_rfl) (by kernel_rfl) (by kernel_rfl) (fun _ _ _ h => h) (Or.inl ⟨by rfl, ?_⟩) (by assumption) ?_
    rotate_left 1
    focus ((intro wS hSw; (try dsimp only at hSw); go_simp) <;> (try with_reducible rfl))
    simp only [Act.put, List.setIfInBounds_toArray, List.set_cons_zero, List.set_cons_succ]
    refine wpAnyH_take (i := 39) (oi := ue39) (v := ?_) rfl (by kernel_rfl) (by kernel_rfl) (by kernel_rfl) (fun _ _ _ h => h) (Or.inl ⟨by rfl, ?_⟩) (by assumption) ?_
    rotate_left 1
    focus ((intro wS hSw; (try dsimp only at hSw); go_simp) <;> (try with_reducible rfl))
    simp only [Act.put, List.setIfInBounds_toArray, List.set_cons_zero, List.set_cons_succ]
    refine wpAnyH_listed (l := #[true, true, true, true, true, true, true, true, true, true, true, true, true, true, true, true, true, true, true, true, true, true, true, true, true, true, true, true, true, true, true, true, true, true, true, true, true, true, true, true, false, false, false]) (by kernel_rfl) ?_
    have KDn := Lib.hid (KD.out)
    have BAn := Lib.hid BA27.out
    revert KDn BAn
    exact X12 w27 g12
  refine AllReadyH.cons (o := ue40) rfl (fun K hK => ?_) AllReadyH.nil
  go_simp
  refine (NX.out w26).mono ?_; rintro e w28 ⟨rfl, b⟩
  have BA28 := Lib.hid (BA26.out.trans (b.mono BA26.out.size))
  clear b
  go_wp2_with fail
  refine hK.out _ _ (KC.out _ BA28.out) (fun hHeld => ?_)
  clear hK K
  (try simp only [Act.put, List.setIfInBounds_toArray, List.set_cons_zero, List.set_cons_succ])
  refine wpAnyH_ready (rs := [20]) (by kernel_rfl) (by simp) ?_
  refine AllReadyH.cons (o := ue20) rfl (fun K hK => ?_) AllReadyH.nil
  go_simp
  obtain ⟨w29, hw29⟩ := named (w28.alloc (.cells #[.int .u8 T] 5 (0, 0)))
  rw [← hw29.out]
  have b29 : Below w28.heap.size w28 w29 := by rw [hw29.out]; exact (Below.refl _ _).alloc (Nat.le_refl _) _
  have BA29 := Lib.hid (BA28.out.trans (b29.mono BA28.out.size))
  obtain ⟨g13, hg13⟩ := named w28.heap.size
  have KD : Hid (∀ w', Below w29.heap.size w29 w' → (fun w' => (convert 25 9 (.slice (some ⟨g13, 0, none⟩) 1 1)).run Tryz.prog w' = .ok (.string ST) w' ∧ w'.cell? ⟨w.heap.size, 0, none⟩ = some (.int .u8 T) ∧ w'.cell? ⟨w.heap.size, 1, none⟩ = some (.string nm) ∧ w'.cell? ⟨w.heap.size, 2, none⟩ = some (.string pf) ∧ w'.cell? ⟨w.heap.size, 3, none⟩ = some (.string lk) ∧ w'.cell? ⟨w.heap.size, 4, none⟩ = some (.int .i64 md) ∧ w'.cell? ⟨w.heap.size, 5, none⟩ = some (.int .i64 sz)) w') := by rw [hg13.out]; exact KDL.out w28 w29 (by rw [hw29.out]) BA29.out
  clear b29
  refine hK.out _ _ (KC.out _ BA29.out) (fun hHeld => ?_)
  clear hK K
  (try simp only [Act.put, List.setIfInBounds_toArray, List.set_cons_zero, List.set_cons_succ])
  rw [← hg13.out]
  refine wpAnyH_switch (S2 := (fun w' => (convert 25 9 (.slice (some ⟨g13, 0, none⟩) 1 1)).run Tryz.prog w' = .ok (.string ST) w' ∧ w'.cell? ⟨w.heap.size, 0, none⟩ = some (.int .u8 T) ∧ w'.cell? ⟨w.heap.size, 1, none⟩ = some (.string nm) ∧ w'.cell? ⟨w.heap.size, 2, none⟩ = some (.string pf) ∧ w'.cell? ⟨w.heap.size, 3, none⟩ = some (.string lk) ∧ w'.cell? ⟨w.heap.size, 4, none⟩ = some (.int .i64 md) ∧ w'.cell? ⟨w.heap.size, 5, none⟩ = some (.int .i64 sz))) (fun _ h => h.2) ?_
  have hHeld := KD.out w29 (Below.refl _ _)
  refine wpAnyH_take (i := 21) (oi := ue21) (v := ?_) rfl (by kernel_rfl) (by kernel_rfl) (by kernel_rfl) (fun _ _ _ h => h) (Or.inl ⟨by rfl, ?_⟩) (by assumption) ?_
  rotate_left 1
  focus ((intro wS hSw; (try dsimp only at hSw); go_simp) <;> (try with_reducible rfl))
  simp only [Act.put, List.setIfInBounds_toArray, List.set_cons_zero, List.set_cons_succ]
  refine wpAnyH_take (i := 22) (oi := ue22) (v := ?_) rfl (by kernel_rfl) (by kernel_rfl) (by kernel_rfl) (fun _ _ _ h => h) (Or.inl ⟨by rfl, ?_⟩) (by assumption) ?_
  rotate_left 1
  focus ((intro wS hSw; (try dsimp only at hSw); go_simp) <;> (try with_reducible rfl))
  simp only [Act.put, List.setIfInBounds_toArray, List.set_cons_zero, List.set_cons_succ]
  refine wpAnyH_take (i := 26) (oi := ue26) (v := ?_) rfl (by kernel_rfl) (by kernel_rfl) (by kernel_rfl) (fun _ _ _ h => h) (Or.inl ⟨by rfl, ?_⟩) (by assumption) ?_
  rotate_left 1
  focus ((intro wS hSw; (try dsimp only at hSw); go_simp) <;> (try with_reducible rfl))
  simp only [Act.put, List.setIfInBounds_toArray, List.set_cons_zero, List.set_cons_succ]
  refine wpAnyH_take (i := 27) (oi := ue27) (v := ?_) rfl (by kernel_rfl) (by kernel_rfl) (by kernel_rfl) (fun _ _ _ h => h) (Or.inl ⟨by rfl, ?_⟩) (by assumption) ?_
  rotate_left 1
  focus ((intro wS hSw; (try dsimp only at hSw); go_simp) <;> (try with_reducible rfl))
  simp only [Act.put, List.setIfInBounds_toArray, List.set_cons_zero, List.set_cons_succ]
  refine wpAnyH_take (i := 29) (oi := ue29) (v := ?_) rfl (by kernel_rfl) (by kernel_rfl) (by kernel_rfl) (fun _ _ _ h => h) (Or.inl ⟨by rfl, ?_⟩) (by assumption) ?_
  rotate_left 1
  focus ((intro wS hSw; (try dsimp only at hSw); go_simp) <;> (try with_reducible rfl))
  simp only [Act.put, List.setIfInBounds_toArray, List.set_cons_zero, List.set_cons_succ]
  refine wpAnyH_take (i := 31) (oi := ue31) (v := ?_) rfl (by kernel_rfl) (by kernel_rfl) (by kernel_rfl) (fun _ _ _ h => h) (Or.inl ⟨by rfl, ?_⟩) (by assumption) ?_
  rotate_left 1
  focus ((intro wS hSw; (try dsimp only at hSw); go_simp) <;> (try with_reducible rfl))
  simp only [Act.put, List.setIfInBounds_toArray, List.set_cons_zero, List.set_cons_succ]
  refine wpAnyH_take (i := 33) (oi := ue33) (v := ?_) rfl (by kernel_rfl) (by kernel_rfl) (by kernel_rfl) (fun _ _ _ h => h) (Or.inl ⟨by rfl, ?_⟩) (by assumption) ?_
  rotate_left 1
  focus ((intro wS hSw; (try dsimp only at hSw); go_simp) <;> (try with_reducible rfl))
  simp only [Act.put, List.setIfInBounds_toArray, List.set_cons_zero, List.set_cons_succ]
  refine wpAnyH_take (i := 35) (oi := ue35) (v := ?_) rfl (by kernel_rfl) (by kernel_rfl) (by kernel_rfl) (fun _ _ _ h => h) (Or.inl ⟨by rfl, ?_⟩) (by assumption) ?_
  rotate_left 1
  focus ((intro wS hSw; (try dsimp only at hSw); go_simp) <;> (try with_reducible rfl))
  simp only [Act.put, List.setIfInBounds_toArray, List.set_cons_zero, List.set_cons_succ]
  refine wpAnyH_take (i := 39) (oi := ue39) (v := ?_) rfl (by kernel_rfl) (by kernel_rfl) (by kernel_rfl) (fun _ _ _ h => h) (Or.inl ⟨by rfl, ?_⟩) (by assumption) ?_
  rotate_left 1
  focus ((intro wS hSw; (try dsimp only at hSw); go_simp) <;> (try with_reducible rfl))
  simp only [Act.put, List.setIfInBounds_toArray, List.set_cons_zero, List.set_cons_succ]
  refine wpAnyH_take (i := 41) (oi := ue41) (v := ?_) rfl (by kernel_rfl) (by kernel_rfl) (by kernel_rfl) (fun _ _ _ h => h) (Or.inl ⟨by rfl, ?_⟩) (by assumption) ?_
  rotate_left 1
  focus ((intro wS hSw; (try dsimp only at hSw); go_simp) <;> (try with_reducible rfl))
  simp only [Act.put, List.setIfInBounds_toArray, List.set_cons_zero, List.set_cons_succ]
  refine wpAnyH_take (i := 42) (oi := ue42) (v := ?_) rfl (by kernel_rfl) (by kernel_rfl) (by kernel_rfl) (fun _ _ _ h => h) (Or.inl ⟨by rfl, ?_⟩) (by assumption) ?_
  rotate_left 1
  focus ((intro wS hSw; (try dsimp only at hSw); go_simp) <;> (try with_reducible rfl))
  simp only [Act.put, List.setIfInBounds_toArray, List.set_cons_zero, List.set_cons_succ]
  refine wpAnyH_listed (l := #[true, true, true, true, true, true, true, true, true, true, true, true, true, true, true, true, true, true, true, true, true, true, true, true, true, true, true, true, true, true, true, true, true, true, true, true, true, true, true, true, true, true, true]) (by kernel_rfl) ?_
  have KDn := Lib.hid (KD.out)
  have BAn := Lib.hid BA29.out
  revert KDn BAn
  exact X13 w29 g13
  · intro wa g KD BA
    have hHeld := KD.out wa (Below.refl _ _)
    refine wpAnyH_ready (rs := [2]) (by kernel_rfl) (by simp) ?_
    refine AllReadyH.cons (o := ue2) rfl (fun K hK => ?_) AllReadyH.nil
    go_simp
    refine (N1.out wa).mono ?_; rintro e wb ⟨rfl, b⟩
    have BB := Lib.hid (BA.out.trans (b.mono BA.out.size)); have BX := Lib.hid b
    clear b
    go_wp2_with fail
    refine hK.out _ _ (KD.out _ BX.out) (fun hHeld => ?_)
    clear hK K
    (try simp only [List.setIfInBounds_toArray, List.set_cons_zero, List.set_cons_succ])
    refine wpAnyH_listed (l := #[true, true, true, true, true, false, false, false, false, false, false, true, true, false, false, false, false, false, true, true, true, true, false, true, true, false, false, false, false, false, false, false, false, false, false, false, true, true, false, false, false, false, false]) (by kernel_rfl) ?_
    have KDn := Lib.hid (fun w' (hb : Below wb.heap.size wb w') => KD.out w' (BX.out.trans (hb.mono BX.out.size)))
    have BAn := Lib.hid BB.out
    revert KDn BAn
    exact X1 wb g
  · intro wa g KD BA
    have hHeld := KD.out wa (Below.refl _ _)
    refine wpAnyH_ready (rs := [5]) (by kernel_rfl) (by simp) ?_
    refine AllReadyH.cons (o := ue5) rfl (fun K hK => ?_) AllReadyH.nil
    go_simp
    refine (N2.out wa).mono ?_; rintro e wb ⟨rfl, b⟩
    have BB := Lib.hid (BA.out.trans (b.mono BA.out.size)); have BX := Lib.hid b
    clear b
    go_wp2_with fail
    refine hK.out _ _ (KD.out _ BX.out) (fun hHeld => ?_)
    clear hK K
    (try simp only [List.setIfInBounds_toArray, List.set_cons_zero, List.set_cons_succ])
    refine wpAnyH_take (i := 6) (oi := ue6) (v := ?_) rfl (by kernel_rfl) (by kernel_rfl) (by kernel_rfl) (fun _ _ _ h => h) (Or.inl ⟨by rfl, ?_⟩) (by assumption) ?_
    rotate_left 1
    focus ((intro wS hSw; (try dsimp only at hSw); go_simp) <;> (try with_reducible rfl))
    simp only [Act.put, List.setIfInBounds_toArray, List.set_cons_zero, List.set_cons_succ]
    refine wpAnyH_listed (l := #[true, true, true, true, true, true, true, false, false, false, false, true, true, false, false, false, false, false, true, true, true, true, false, true, true, false, false, false, false, false, false, false, false, false, false, false, true, true, false, false, false, false, false]) (by kernel_rfl) ?_
    have KDn := Lib.hid (fun w' (hb : Below wb.heap.size wb w') => KD.out w' (BX.out.trans (hb.mono BX.out.size)))
    have BAn := Lib.hid BB.out
    revert KDn BAn
    exact X2 wb g
  · intro wa g KD BA
    have hHeld := KD.out wa (Below.refl _ _)
    refine wpAnyH_ready (rs := [7]) (by kernel_rfl) (by simp) ?_
    refine AllReadyH.cons (o := ue7) rfl (fun K hK => ?_) AllReadyH.nil
    go_simp
    refine (N8.out wa).mono ?_; rintro e wb ⟨rfl, b⟩
    have BB := Lib.hid (BA.out.trans (b.mono BA.out.size)); have BX := Lib.hid b
    clear b
    go_wp2_with fail
    refine hK.out _ _ (KD.out _ BX.out) (fun hHeld => ?_)
    clear hK K
    (try simp only [List.setIfInBounds_toArray, List.set_cons_zero, List.set_cons_succ])
    refine wpAnyH_take (i := 8) (oi := ue8) (v := ?_) rfl (by kernel_rfl) (by kernel_rfl) (by kernel_rfl) (fun _ _ _ h => h) (Or.inl ⟨by rfl, ?_⟩) (by assumption) ?_
    rotate_left 1
    focus ((intro wS hSw; (try dsimp only at hSw); go_simp) <;> (try with_reducible rfl))
    simp only [Act.put, List.setIfInBounds_toArray, List.set_cons_zero, List.set_cons_succ]
    refine wpAnyH_listed (l := #[true, true, true, true, true, true, true, true, true, false, false, true, true, false, false, false, false, false, true, true, true, true, false, true, true, false, false, false, false, false, false, false, false, false, false, false, true, true, false, false, false, false, false]) (by kernel_rfl) ?_
    have KDn := Lib.hid (fun w' (hb : Below wb.heap.size wb w') => KD.out w' (BX.out.trans (hb.mono BX.out.size)))
    have BAn := Lib.hid BB.out
    revert KDn BAn
    exact X3 wb g
  · intro wa g KD BA
    have hHeld := KD.out wa (Below.refl _ _)
    refine wpAnyH_ready (rs := [9]) (by kernel_rfl) (by simp) ?_
    refine AllReadyH.cons (o := ue9) rfl (fun K hK => ?_) AllReadyH.nil
    go_simp
    refine (N8.out wa).mono ?_; rintro e wb ⟨rfl, b⟩
    have BB := Lib.hid (BA.out.trans (b.mono BA.out.size)); have BX := Lib.hid b
    clear b
    go_wp2_with fail
    refine hK.out _ _ (KD.out _ BX.out) (fun hHeld => ?_)
    clear hK K
    (try simp only [List.setIfInBounds_toArray, List.set_cons_zero, List.set_cons_succ])
    refine wpAnyH_take (i := 10) (oi := ue10) (v := ?_) rfl (by kernel_rfl) (by kernel_rfl) (by kernel_rfl) (fun _ _ _ h => h) (Or.inl ⟨by rfl, ?_⟩) (by assumption) ?_
    rotate_left 1
    focus ((intro wS hSw; (try dsimp only at hSw); go_simp) <;> (try with_reducible rfl))
    simp only [Act.put, List.setIfInBounds_toArray, List.set_cons_zero, List.set_cons_succ]
    refine wpAnyH_listed (l := #[true, true, true, true, true, true, true, true, true, true, true, true, true, false, false, false, false, false, true, true, true, true, false, true, true, false, false, false, false, false, false, false, false, false, false, false, true, true, false, false, false, false, false]) (by kernel_rfl) ?_
    have KDn := Lib.hid (fun w' (hb : Below wb.heap.size wb w') => KD.out w' (BX.out.trans (hb.mono BX.out.size)))
    have BAn := Lib.hid BB.out
    revert KDn BAn
    exact X4 wb g
  · intro wa g KD BA
    have hHeld := KD.out wa (Below.refl _ _)
    refine wpAnyH_ready (rs := [13]) (by kernel_rfl) (by simp) ?_
    refine AllReadyH.cons (o := ue13) rfl (fun K hK => ?_) AllReadyH.nil
    go_simp
    refine (N3.out wa).mono ?_; rintro e wb ⟨rfl, b⟩
    have BB := Lib.hid (BA.out.trans (b.mono BA.out.size)); have BX := Lib.hid b
    clear b
    go_wp2_with fail
    refine hK.out _ _ (KD.out _ BX.out) (fun hHeld => ?_)
    clear hK K
    (try simp only [List.setIfInBounds_toArray, List.set_cons_zero, List.set_cons_succ])
    refine wpAnyH_take (i := 14) (oi := ue14) (v := ?_) rfl (by kernel_rfl) (by kernel_rfl) (by kernel_rfl) (fun _ _ _ h => h) (Or.inl ⟨by rfl, ?_⟩) (by assumption) ?_
    rotate_left 1
    focus ((intro wS hSw; (try dsimp only at hSw); go_simp) <;> (try with_reducible rfl))
    simp only [Act.put, List.setIfInBounds_toArray, List.set_cons_zero, List.set_cons_succ]
    refine wpAnyH_listed (l := #[true, true, true, true, true, true, true, true, true, true, true, true, true, true, true, false, false, false, true, true, true, true, false, true, true, false, false, false, false, false, false, false, false, false, false, false, true, true, false, false, false, false, false]) (by kernel_rfl) ?_
    have KDn := Lib.hid (fun w' (hb : Below wb.heap.size wb w') => KD.out w' (BX.out.trans (hb.mono BX.out.size)))
    have BAn := Lib.hid BB.out
    revert KDn BAn
    exact X5 wb g
  · intro wa g KD BA
    have hHeld := KD.out wa (Below.refl _ _)
    refine wpAnyH_ready (rs := [15]) (by kernel_rfl) (by simp) ?_
    refine AllReadyH.cons (o := ue15) rfl (fun K hK => ?_) AllReadyH.nil
    go_simp
    refine (N12.out wa).mono ?_; rintro e wb ⟨rfl, b⟩
    have BB := Lib.hid (BA.out.trans (b.mono BA.out.size)); have BX := Lib.hid b
    clear b
    go_wp2_with fail
    refine hK.out _ _ (KD.out _ BX.out) (fun hHeld => ?_)
    clear hK K
    (try simp only [List.setIfInBounds_toArray, List.set_cons_zero, List.set_cons_succ])
    refine wpAnyH_take (i := 16) (oi := ue16) (v := ?_) rfl (by kernel_rfl) (by kernel_rfl) (by kernel_rfl) (fun _ _ _ h => h) (Or.inl ⟨by rfl, ?_⟩) (by assumption) ?_
    rotate_left 1
    focus ((intro wS hSw; (try dsimp only at hSw); go_simp) <;> (try with_reducible rfl))
    simp only [Act.put, List.setIfInBounds_toArray, List.set_cons_zero, List.set_cons_succ]
    refine wpAnyH_take (i := 17) (oi := ue17) (v := ?_) rfl (by kernel_rfl) (by kernel_rfl) (by kernel_rfl) (fun _ _ _ h => h) (Or.inl ⟨by rfl, ?_⟩) (by assumption) ?_
    rotate_left 1
    focus ((intro wS hSw; (try dsimp only at hSw); go_simp) <;> (try with_reducible rfl))
    simp only [Act.put, List.setIfInBounds_toArray, List.set_cons_zero, List.set_cons_succ]
    refine wpAnyH_take (i := 22) (oi := ue22) (v := ?_) rfl (by kernel_rfl) (by kernel_rfl) (by kernel_rfl) (fun _ _ _ h => h) (Or.inl ⟨by rfl, ?_⟩) (by assumption) ?_
    rotate_left 1
    focus ((intro wS hSw; (try dsimp only at hSw); go_simp) <;> (try with_reducible rfl))
    simp only [Act.put, List.setIfInBounds_toArray, List.set_cons_zero, List.set_cons_succ]
    refine wpAnyH_listed (l := #[true, true, true, true, true, true, true, true, true, true, true, true, true, true, true, true, true, true, true, true, true, true, true, true, true, false, false, false, false, false, false, false, false, false, false, false, true, true, false, false, false, false, false]) (by kernel_rfl) ?_
    have KDn := Lib.hid (fun w' (hb : Below wb.heap.size wb w') => KD.out w' (BX.out.trans (hb.mono BX.out.size)))
    have BAn := Lib.hid BB.out
    revert KDn BAn
    exact X6 wb g
  · intro wa g KD BA
    have hHeld := KD.out wa (Below.refl _ _)
    refine wpAnyH_ready (rs := [25]) (by kernel_rfl) (by simp) ?_
    refine AllReadyH.cons (o := ue25) rfl (fun K hK => ?_) AllReadyH.nil
    go_simp
    refine (N4.out wa).mono ?_; rintro e wb ⟨rfl, b⟩
    have BB := Lib.hid (BA.out.trans (b.mono BA.out.size)); have BX := Lib.hid b
    clear b
    go_wp2_with fail
    refine hK.out _ _ (KD.out _ BX.out) (fun hHeld => ?_)
    clear hK K
    (try simp only [List.setIfInBounds_toArray, List.set_cons_zero, List.set_cons_succ])
    refine wpAnyH_take (i := 26) (oi := ue26) (v := ?_) rfl (by kernel_rfl) (by kernel_rfl) (by kernel_rfl) (fun _ _ _ h => h) (Or.inl ⟨by rfl, ?_⟩) (by assumption) ?_
    rotate_left 1
    focus ((intro wS hSw; (try dsimp only at hSw); go_simp) <;> (try with_reducible rfl))
    simp only [Act.put, List.setIfInBounds_toArray, List.set_cons_zero, List.set_cons_succ]
    refine wpAnyH_take (i := 27) (oi := ue27) (v := ?_) rfl (by kernel_rfl) (by kernel_rfl) (by kernel_rfl) (fun _ _ _ h => h) (Or.inl ⟨by rfl, ?_⟩) (by assumption) ?_
    rotate_left 1
    focus ((intro wS hSw; (try dsimp only at hSw); go_simp) <;> (try with_reducible rfl))
    simp only [Act.put, List.setIfInBounds_toArray, List.set_cons_zero, List.set_cons_succ]
    refine wpAnyH_listed (l := #[true, true, true, true, true, true, true, true, true, true, true, true, true, true, true, true, true, true, true, true, true, true, true, true, true, true, true, true, false, false, false, false, false, false, false, false, true, true, false, false, false, false, false]) (by kernel_rfl) ?_
    have KDn := Lib.hid (fun w' (hb : Below wb.heap.size wb w') => KD.out w' (BX.out.trans (hb.mono BX.out.size)))
    have BAn := Lib.hid BB.out
    revert KDn BAn
    exact X7 wb g
  · intro wa g KD BA
    have hHeld := KD.out wa (Below.refl _ _)
    refine wpAnyH_ready (rs := [28]) (by kernel_rfl) (by simp) ?_
    refine AllReadyH.cons (o := ue28) rfl (fun K hK => ?_) AllReadyH.nil
    go_simp
    refine (N32.out wa).mono ?_; rintro e wb ⟨rfl, b⟩
    have BB := Lib.hid (BA.out.trans (b.mono BA.out.size)); have BX := Lib.hid b
    clear b
    go_wp2_with fail
    refine hK.out _ _ (KD.out _ BX.out) (fun hHeld => ?_)
    clear hK K
    (try simp only [List.setIfInBounds_toArray, List.set_cons_zero, List.set_cons_succ])
    refine wpAnyH_take (i := 29) (oi := ue29) (v := ?_) rfl (by kernel_rfl) (by kernel_rfl) (by kernel_rfl) (fun _ _ _ h => h) (Or.inl ⟨by rfl, ?_⟩) (by assumption) ?_
    rotate_left 1
    focus ((intro wS hSw; (try dsimp only at hSw); go_simp) <;> (try with_reducible rfl))
    simp only [Act.put, List.setIfInBounds_toArray, List.set_cons_zero, List.set_cons_succ]
    refine wpAnyH_listed (l := #[true, true, true, true, true, true, true, true, true, true, true, true, true, true, true, true, true, true, true, true, true, true, true, true, true, true, true, true, true, true, false, false, false, false, false, false, true, true, false, false, false, false, false]) (by kernel_rfl) ?_
    have KDn := Lib.hid (fun w' (hb : Below wb.heap.size wb w') => KD.out w' (BX.out.trans (hb.mono BX.out.size)))
    have BAn := Lib.hid BB.out
    revert KDn BAn
    exact X8 wb g
  · intro wa g KD BA
    have hHeld := KD.out wa (Below.refl _ _)
    refine wpAnyH_ready (rs := [30]) (by kernel_rfl) (by simp) ?_
    refine AllReadyH.cons (o := ue30) rfl (fun K hK => ?_) AllReadyH.nil
    go_simp
    refine (N32.out wa).mono ?_; rintro e wb ⟨rfl, b⟩
    have BB := Lib.hid (BA.out.trans (b.mono BA.out.size)); have BX := Lib.hid b
    clear b
    go_wp2_with fail
    refine hK.out _ _ (KD.out _ BX.out) (fun hHeld => ?_)
    clear hK K
    (try simp only [List.setIfInBounds_toArray, List.set_cons_zero, List.set_cons_succ])
    refine wpAnyH_take (i := 31) (oi := ue31) (v := ?_) rfl (by kernel_rfl) (by kernel_rfl) (by kernel_rfl) (fun _ _ _ h => h) (Or.inl ⟨by rfl, ?_⟩) (by assumption) ?_
    rotate_left 1
    focus ((intro wS hSw; (try dsimp only at hSw); go_simp) <;> (try with_reducible rfl))
    simp only [Act.put, List.setIfInBounds_toArray, List.set_cons_zero, List.set_cons_succ]
    refine wpAnyH_listed (l := #[true, true, true, true, true, true, true, true, true, true, true, true, true, true, true, true, true, true, true, true, true, true, true, true, true, true, true, true, true, true, true, true, false, false, false, false, true, true, false, false, false, false, false]) (by kernel_rfl) ?_
    have KDn := Lib.hid (fun w' (hb : Below wb.heap.size wb w') => KD.out w' (BX.out.trans (hb.mono BX.out.size)))
    have BAn := Lib.hid BB.out
    revert KDn BAn
    exact X9 wb g
  · intro wa g KD BA
    have hHeld := KD.out wa (Below.refl _ _)
    refine wpAnyH_ready (rs := [32]) (by kernel_rfl) (by simp) ?_
    refine AllReadyH.cons (o := ue32) rfl (fun K hK => ?_) AllReadyH.nil
    go_simp
    refine (N8.out wa).mono ?_; rintro e wb ⟨rfl, b⟩
    have BB := Lib.hid (BA.out.trans (b.mono BA.out.size)); have BX := Lib.hid b
    clear b
    go_wp2_with fail
    refine hK.out _ _ (KD.out _ BX.out) (fun hHeld => ?_)
    clear hK K
    (try simp only [List.setIfInBounds_toArray, List.set_cons_zero, List.set_cons_succ])
    refine wpAnyH_take (i := 33) (oi := ue33) (v := ?_) rfl (by kernel_rfl) (by kernel_rfl) (by kernel_rfl) (fun _ _ _ h => h) (Or.inl ⟨by rfl, ?_⟩) (by assumption) ?_
    rotate_left 1
    focus ((intro wS hSw; (try dsimp only at hSw); go_simp) <;> (try with_reducible rfl))
    simp only [Act.put, List.setIfInBounds_toArray, List.set_cons_zero, List.set_cons_succ]
    refine wpAnyH_listed (l := #[true, true, true, true, true, true, true, true, true, true, true, true, true, true, true, true, true, true, true, true, true, true, true, true, true, true, true, true, true, true, true, true, true, true, false, false, true, true, false, false, false, false, false]) (by kernel_rfl) ?_
    have KDn := Lib.hid (fun w' (hb : Below wb.heap.size wb w') => KD.out w' (BX.out.trans (hb.mono BX.out.size)))
    have BAn := Lib.hid BB.out
    revert KDn BAn
    exact X10 wb g
  · intro wa g KD BA
    have hHeld := KD.out wa (Below.refl _ _)
    refine wpAnyH_ready (rs := [34]) (by kernel_rfl) (by simp) ?_
    refine AllReadyH.cons (o := ue34) rfl (fun K hK => ?_) AllReadyH.nil
    go_simp
    refine (N8.out wa).mono ?_; rintro e wb ⟨rfl, b⟩
    have BB := Lib.hid (BA.out.trans (b.mono BA.out.size)); have BX := Lib.hid b
    clear b
    go_wp2_with fail
    refine hK.out _ _ (KD.out _ BX.out) (fun hHeld => ?_)
    clear hK K
    (try simp only [List.setIfInBounds_toArray, List.set_cons_zero, List.set_cons_succ])
    refine wpAnyH_take (i := 35) (oi := ue35) (v := ?_) rfl (by kernel_rfl) (by kernel_rfl) (by kernel_rfl) (fun _ _ _ h => h) (Or.inl ⟨by rfl, ?_⟩) (by assumption) ?_
    rotate_left 1
    focus ((intro wS hSw; (try dsimp only at hSw); go_simp) <;> (try with_reducible rfl))
    simp only [Act.put, List.setIfInBounds_toArray, List.set_cons_zero, List.set_cons_succ]
    refine wpAnyH_listed (l := #[true, true, true, true, true, true, true, true, true, true, true, true, true, true, true, true, true, true, true, true, true, true, true, true, true, true, true, true, true, true, true, true, true, true, true, true, true, true, false, false, false, false, false]) (by kernel_rfl) ?_
    have KDn := Lib.hid (fun w' (hb : Below wb.heap.size wb w') => KD.out w' (BX.out.trans (hb.mono BX.out.size)))
    have BAn := Lib.hid BB.out
    revert KDn BAn
    exact X11 wb g
  · intro wa g KD BA
    have hHeld := KD.out wa (Below.refl _ _)
    refine wpAnyH_ready (rs := [38]) (by kernel_rfl) (by simp) ?_
    refine AllReadyH.cons (o := ue38) rfl (fun K hK => ?_) AllReadyH.nil
    go_simp
    refine (N5.out wa).mono ?_; rintro e wb ⟨rfl, b⟩
    have BB := Lib.hid (BA.out.trans (b.mono BA.out.size)); have BX := Lib.hid b
    clear b
    go_wp2_with fail
    refine hK.out _ _ (KD.out _ BX.out) (fun hHeld => ?_)
    clear hK K
    (try simp only [List.setIfInBounds_toArray, List.set_cons_zero, List.set_cons_succ])
    refine wpAnyH_take (i := 39) (oi := ue39) (v := ?_) rfl (by kernel_rfl) (by kernel_rfl) (by kernel_rfl) (fun _ _ _ h => h) (Or.inl ⟨by rfl, ?_⟩) (by assumption) ?_
    rotate_left 1
    focus ((intro wS hSw; (try dsimp only at hSw); go_simp) <;> (try with_reducible rfl))
    simp only [Act.put, List.setIfInBounds_toArray, List.set_cons_zero, List.set_cons_succ]
    refine wpAnyH_listed (l := #[true, true, true, true, true, true, true, true, true, true, true, true, true, true, true, true, true, true, true, true, true, true, true, true, true, true, true, true, true, true, true, true, true, true, true, true, true, true, true, true, false, false, false]) (by kernel_rfl) ?_
    have KDn := Lib.hid (fun w' (hb : Below wb.heap.size wb w') => KD.out w' (BX.out.trans (hb.mono BX.out.size)))
    have BAn := Lib.hid BB.out
    revert KDn BAn
    exact X12 wb g
  · intro wa g KD BA
    have hHeld := KD.out wa (Below.refl _ _)
    refine wpAnyH_ready (rs := [40]) (by kernel_rfl) (by simp) ?_
    refine AllReadyH.cons (o := ue40) rfl (fun K hK => ?_) AllReadyH.nil
    go_simp
    refine (NX.out wa).mono ?_; rintro e wb ⟨rfl, b⟩
    have BB := Lib.hid (BA.out.trans (b.mono BA.out.size)); have BX := Lib.hid b
    clear b
    go_wp2_with fail
    refine hK.out _ _ (KD.out _ BX.out) (fun hHeld => ?_)
    clear hK K
    (try simp only [List.setIfInBounds_toArray, List.set_cons_zero, List.set_cons_succ])
    refine wpAnyH_take (i := 41) (oi := ue41) (v := ?_) rfl (by kernel_rfl) (by kernel_rfl) (by kernel_rfl) (fun _ _ _ h => h) (Or.inl ⟨by rfl, ?_⟩) (by assumption) ?_
    rotate_left 1
    focus ((intro wS hSw; (try dsimp only at hSw); go_simp) <;> (try with_reducible rfl))
    simp only [Act.put, List.setIfInBounds_toArray, List.set_cons_zero, List.set_cons_succ]
    refine wpAnyH_take (i := 42) (oi := ue42) (v := ?_) rfl (by kernel_rfl) (by kernel_rfl) (by kernel_rfl) (fun _ _ _ h => h) (Or.inl ⟨by rfl, ?_⟩) (by assumption) ?_
    rotate_left 1
    focus ((intro wS hSw; (try dsimp only at hSw); go_simp) <;> (try with_reducible rfl))
    simp only [Act.put, List.setIfInBounds_toArray, List.set_cons_zero, List.set_cons_succ]
    refine wpAnyH_listed (l := #[true, true, true, true, true, true, true, true, true, true, true, true, true, true, true, true, true, true, true, true, true, true, true, true, true, true, true, true, true, true, true, true, true, true, true, true, true, true, true, true, true, true, true]) (by kernel_rfl) ?_
    have KDn := Lib.hid (fun w' (hb : Below wb.heap.size wb w') => KD.out w' (BX.out.trans (hb.mono BX.out.size)))
    have BAn := Lib.hid BB.out
    revert KDn BAn
    exact X13 wb g
  · intro wa g KD BA
    have hHeld := KD.out wa (Below.refl _ _)
    refine wpAnyH_done (by kernel_rfl) ?_ _
    obtain ⟨S9, hS9⟩ := named (((((((((((((((s1 ++ o1) ++ o8) ++ o8) ++ o3) ++ o12) ++ { data := #[32, 32, 32, 32, 32, 32, 32, 32] }) ++ ST) ++ s4) ++ { data := #[117, 115, 116, 97, 114, 0, 48, 48] }) ++ x32) ++ x32) ++ o8) ++ o8) ++ s5) ++ xx)
    rw [← hS9.out]
    have hz : numsOf S9 = rawH T nm pf lk md sz := hS9.out ▸ HBIG.out
    have hsz : S9.size = 512 := by rw [← numsOf_length, hz]; exact HRL.out
    obtain ⟨c9, w9, hrun, hrow, hbel, hlt⟩ := run_bytes_of (P := Tryz.prog) wa Tryz.underlying9 Tryz.underlying25 Tryz.underlying5 S9
    rw [hsz] at hrun
    rw [hz] at hrow
    have hcap : Hid (512 ≤ c9) := CAP.out _ _ _ _ hsz hrun
    have B9 := Lib.hid (BA.out.trans (hbel.mono BA.out.size)); have R9 := Lib.hid (BytesIn.of_row hrow hlt)
    clear hbel hrow hlt
    go_wp2_with fail
    refine (Chk.rseal_ok _ c9 _ w9 HRL.out R9.out hcap.out).mono ?_; rintro e w10 ⟨b10, c10, rfl, hr10, hl10, hb10⟩
    have B10 := Lib.hid (B9.out.trans (hb10.mono B9.out.size)); have R10 := Lib.hid hr10; have L10 := Lib.hid hl10
    clear hr10 hl10 hb10
    go_wp2_with fail
    go_ret2
    exact ⟨b10, c10, rfl, R10.out, L10.out, B2.out.trans (B10.out.mono B2.out.size)⟩
end Go.Proofs.YtmbimnnacjbdfaaGreatDoor.Ust
