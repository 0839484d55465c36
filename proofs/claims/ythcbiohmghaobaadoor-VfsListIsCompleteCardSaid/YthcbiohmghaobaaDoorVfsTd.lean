/-
  Layer 19: the program's turned. (gen_VfsTd.py writes it.)
-/
import Derived.Test.YthcbiohmghaobaaDoorVfsTrn
namespace Go.Proofs.YthcbiohmghaobaaDoor.Vfs
open Go.RowKit Go.MapKept Go.Proofs.YthcbiohmghaobaaDoor.Pnm Flt

/-- names rotated to the left, and reversed where the number is odd -/
def trnV (zs : List ByteArray) (r : Int) : List ByteArray := if zs.length = 0 then [] else
  if r % 2 = 1 then (zs.drop (r % zs.length).toNat ++ zs.take (r % zs.length).toNat).reverse else zs.drop (r % zs.length).toNat ++ zs.take (r % zs.length).toNat
theorem trnV_len (zs : List ByteArray) (r : Int) : (trnV zs r).length = zs.length := by
  unfold trnV
  split
  · rename_i h; rw [h]; rfl
  · split
    · rw [List.length_reverse, List.length_append, List.length_drop, List.length_take]; omega
    · rw [List.length_append, List.length_drop, List.length_take]; omega
theorem trnV_perm (zs : List ByteArray) (r : Int) : (trnV zs r).Perm zs := by
  have key : ∀ k, (zs.drop k ++ zs.take k).Perm zs := fun k => List.perm_append_comm.trans (by rw [List.take_append_drop])
  unfold trnV
  split
  · rename_i h; rw [List.length_eq_zero_iff.1 h]
  · split
    · exact (List.reverse_perm _).trans (key _)
    · exact key _
theorem SsAt.take' {w : World} {b off : Nat} {ys : List ByteArray} (h : SsAt w b off ys) (k : Nat) : SsAt w b off (ys.take k) := fun i y hi => h i y (by
  rw [List.getElem?_take] at hi
  split at hi
  · exact hi
  · cases hi)
theorem SsAt.drop' {w : World} {b off : Nat} {ys : List ByteArray} (h : SsAt w b off ys) (k : Nat) : SsAt w b (off + k) (ys.drop k) := fun i y hi => by
  rw [List.getElem?_drop] at hi
  rw [Nat.add_assoc]
  exact h (k + i) y hi
theorem step_lit_two {P : Program} {w : World} {ops : Array Oper} {o : Oper} {a : Act} {Q : Exit → Act → World → Prop} {K : Act → World → Prop} {E : Prop} (hgd : o.guard = none) (t e : TypeId) (x y : Operand) (ho : o.op = .buildSlice t 2 #[(0, x), (1, y)]) (ht : P.underlying t = some (.slice e)) (z : Value) (hI : (P.info? e).map (fun i => (i.zero, i.size)) = some (some z, 1))
    (a1 : Option Addr) (n1 c1 : Nat) (a2 : Option Addr) (n2 c2 : Nat) (hx : a.eval x = .slice a1 n1 c1) (hy : a.eval y = .slice a2 n2 c2)
    (k : ∀ w', ObjAt w' w.heap.size e [.slice a1 n1 c1, .slice a2 n2 c2] → Below w.heap.size w w' → K (a.put o.dst (.slice (some ⟨w.heap.size, 0, none⟩) 2 2)) w') :
    if Region.wanted o (yielded ops a.tmps) = true then Oper.wp P o a w K Q else E := by
  have hw : Region.wanted o (yielded ops a.tmps) = true := by simp [Region.wanted, hgd]
  rw [if_pos hw]
  have hrun : (Instr.buildSlice t 2 #[(0, .slice a1 n1 c1), (1, .slice a2 n2 c2)]).run P w = .ok (.slice (some ⟨w.heap.size, 0, none⟩) 2 2) (w.alloc (.cells #[.slice a1 n1 c1, .slice a2 n2 c2] e)) := by
    cases hq : P.info? e with
    | none => simp [hq] at hI
    | some i =>
      simp [hq] at hI
      simp [Instr.buildSlice, run_underlying ht, sizeOf, typeInfo, zeroValue, hq, hI.1, hI.2, Instr.fill, newRow, Value.cells]
      rw [show Array.range 2 = #[0, 1] by decide]; simp
  unfold Oper.wp
  simp only [execOp, ho, List.map_toArray, List.map_cons, List.map_nil, hx, hy, hrun, Sem.run_bind, Sem.run_pure, Result.andThen_ok]
  exact k _ (heap_alloc_new w _) ((Below.refl _ _).alloc (Nat.le_refl _) _)
set_option maxRecDepth 100000 in
set_option maxHeartbeats 4000000 in
theorem turned_any {w : World} {n c : Nat} {a : Option Addr} {zs : List ByteArray} (hz : SsIn w a zs) (hl : zs.length = n) (hc : n ≤ c) (hn : n ≤ 8796093022208) (r : Int) (hr : 0 ≤ r) :
    Calls Tryd.prog 47 #[.slice a n c, .int .i64 r] w fun e w' => ∃ a' c', e = .returned (.slice a' n c') ∧ w'.ownsRow w.heap.size 9 1 (.slice a' n c') n (ssC (trnV zs r)) ∧ Below w.heap.size w w' := by
  by_cases h0 : n = 0
  · have e1 : trnV zs r = [] := by unfold trnV; rw [if_pos (by omega)]
    rw [e1]
    subst h0
    clear e1 hz hl
    go_enter Tryd.func47, Tryd.ntmps47
    go_wp2_with fail
    go_ret
    exact ⟨none, 0, rfl, ⟨rfl, .inl ⟨rfl, rfl⟩⟩, Below.refl _ _⟩
  obtain ⟨b, off, rfl, hb, hat⟩ : ∃ b off, a = some ⟨b, off, none⟩ ∧ b < w.heap.size ∧ SsAt w b off zs := by
    rcases hz with h | h
    · rw [h] at hl; simp at hl; omega
    · exact h
  obtain ⟨k, hk⟩ : ∃ k : Nat, r % (n : Int) = (k : Int) := ⟨(r % (n : Int)).toNat, (Int.toNat_of_nonneg (Int.emod_nonneg _ (by omega))).symm⟩
  have kn : k < n := by
    have := Int.emod_lt_of_pos r (show (0 : Int) < n by omega)
    omega
  have hkt : r.tmod (n : Int) = (k : Int) := by rw [Int.tmod_eq_emod_of_nonneg hr]; exact hk
  have LI : Hid ((Tryd.prog.info? 44).map (fun i => (i.zero, i.size)) = some (some (.slice none 0 0), 1)) := by show _ = _; kernel_rfl
  have XD : Hid (∀ w', Below w.heap.size w w' → SsIn w' (some ⟨b, off + k, none⟩) (zs.drop k)) := fun w' hbb => .inr ⟨b, off + k, rfl, Nat.lt_of_lt_of_le hb hbb.size, (SsAt.drop' hat k).block (hbb.block b hb)⟩
  have XT : Hid (∀ w', Below w.heap.size w w' → SsIn w' (some ⟨b, off, none⟩) (zs.take k)) := fun w' hbb => .inr ⟨b, off, rfl, Nat.lt_of_lt_of_le hb hbb.size, (SsAt.take' hat k).block (hbb.block b hb)⟩
  have LD : Hid ((zs.drop k).length = n - k) := by show _ = _; rw [List.length_drop, hl]
  have LT : Hid ((zs.take k).length = k) := by show _ = _; rw [List.length_take, hl]; omega
  have NK : Hid (n - k + k = n) := by show _ = _; omega
  have NS : Hid (n - k + k ≤ 8796093022208) := by show _ ≤ _; omega
  have NN := Lib.hid hn
  have i1 : (n : Int) ≤ 8796093022208 := by omega
  have i2 : (k : Int) ≤ n := by omega
  have i3 : (n : Int) ≤ c := by omega
  have i4 : (n : Int) ≠ 0 := by omega
  have i5 : (k : Int) ≤ c := by omega
  have ck : ¬ c = k := by omega
  by_cases ho : r % 2 = 1
  · have m1 : (r % 2 == 1) = true := by rw [ho]; rfl
    have m2 : (r.tmod 2 == 1) = true := by rw [Int.tmod_eq_emod_of_nonneg hr, ho]; rfl
    have TV : Hid (trnV zs r = (zs.drop k ++ zs.take k).reverse) := by show _ = _; unfold trnV; rw [if_neg (by omega), if_pos ho, hl, hk]; rfl
    rw [TV.out]
    clear hz hl hc hn hb hat kn ho
    go_enter Tryd.func47, Tryd.ntmps47
    go_wp2_with fail
    (try rw [hk])
    (try rw [hkt])
    refine wp_region_held_drew (S := fun _ => True) (by kernel_rfl) trivial (fun hHeld => ?_)
    refine tk 0 ?_; simp only [Act.put, sbA, scZ, scS]
    refine tk 1 ?_; simp only [Act.put, sbA, scZ, scS]
    refine tk 2 ?_; simp only [Act.put, sbA, scZ, scS]
    refine tk 3 ?_; simp only [Act.put, sbA, scZ, scS]
    refine tk 4 ?_; simp only [Act.put, sbA, scZ, scS]
    refine tk 5 ?_; simp only [Act.put, sbA, scZ, scS]
    refine rd 6 (fun K hK => ?_)
    refine step_lit_two rfl 141 44 _ _ rfl Tryd.underlying141 _ LI.out (some ⟨b, off + k, none⟩) (n - k) (c - k) (some ⟨b, off, none⟩) k c rfl rfl ?_
    intro w1 g1 b1
    have G1 := Lib.hid g1
    have B1 : Hid (Below w.heap.size w w1) := belT (Below.refl w.heap.size w).drew b1
    clear g1 b1
    refine hK.out _ _ (trivial) (fun hHeld => ?_)
    clear hK K
    (try simp only [Act.put, sbA, scZ, scS])
    refine rd 7 (fun K hK => ?_)
    go_simp
    refine (conc_any G1.out (XD.out _ B1.out) LD.out (XT.out _ B1.out) LT.out NS.out).mono ?_; rintro e w2 ⟨a2, c2, rfl, o2, b2⟩
    rw [NK.out] at o2 ⊢
    have O2 := Lib.hid (own_lower o2 B1.out.size); have B2 := Lib.hid (B1.out.trans (b2.mono B1.out.size))
    clear o2 b2
    refine hK.out _ _ (trivial) (fun hHeld => ?_)
    clear hK K
    (try simp only [Act.put, sbA, scZ, scS])
    refine tk 8 ?_; simp only [Act.put, sbA, scZ, scS]
    refine wpAnyH_done (by kernel_rfl) ?_ _
    have RV := Lib.hid (rev_own O2.out NN.out)
    go_wp2_with fail
    refine RV.out.mono ?_; rintro e w3 ⟨rfl, o3, u3⟩
    have O3 := Lib.hid o3; have B3 := Lib.hid (B2.out.trans (u3.below (fun k hk => hk.1) B2.out.size))
    clear o3 u3
    go_wp2_with fail
    go_ret
    exact ⟨_, _, rfl, O3.out, B3.out⟩
  · have m1 : (r % 2 == 1) = false := by simpa using ho
    have m2 : (r.tmod 2 == 1) = false := by rw [Int.tmod_eq_emod_of_nonneg hr]; simpa using ho
    have TV : Hid (trnV zs r = zs.drop k ++ zs.take k) := by show _ = _; unfold trnV; rw [if_neg (by omega), if_neg ho, hl, hk]; rfl
    rw [TV.out]
    clear hz hl hc hn hb hat kn ho
    go_enter Tryd.func47, Tryd.ntmps47
    go_wp2_with fail
    (try rw [hk])
    (try rw [hkt])
    refine wp_region_held_drew (S := fun _ => True) (by kernel_rfl) trivial (fun hHeld => ?_)
    refine tk 0 ?_; simp only [Act.put, sbA, scZ, scS]
    refine tk 1 ?_; simp only [Act.put, sbA, scZ, scS]
    refine tk 2 ?_; simp only [Act.put, sbA, scZ, scS]
    refine tk 3 ?_; simp only [Act.put, sbA, scZ, scS]
    refine tk 4 ?_; simp only [Act.put, sbA, scZ, scS]
    refine tk 5 ?_; simp only [Act.put, sbA, scZ, scS]
    refine rd 6 (fun K hK => ?_)
    refine step_lit_two rfl 141 44 _ _ rfl Tryd.underlying141 _ LI.out (some ⟨b, off + k, none⟩) (n - k) (c - k) (some ⟨b, off, none⟩) k c rfl rfl ?_
    intro w1 g1 b1
    have G1 := Lib.hid g1
    have B1 : Hid (Below w.heap.size w w1) := belT (Below.refl w.heap.size w).drew b1
    clear g1 b1
    refine hK.out _ _ (trivial) (fun hHeld => ?_)
    clear hK K
    (try simp only [Act.put, sbA, scZ, scS])
    refine rd 7 (fun K hK => ?_)
    go_simp
    refine (conc_any G1.out (XD.out _ B1.out) LD.out (XT.out _ B1.out) LT.out NS.out).mono ?_; rintro e w2 ⟨a2, c2, rfl, o2, b2⟩
    rw [NK.out] at o2 ⊢
    have O2 := Lib.hid (own_lower o2 B1.out.size); have B2 := Lib.hid (B1.out.trans (b2.mono B1.out.size))
    clear o2 b2
    refine hK.out _ _ (trivial) (fun hHeld => ?_)
    clear hK K
    (try simp only [Act.put, sbA, scZ, scS])
    refine tk 8 ?_; simp only [Act.put, sbA, scZ, scS]
    refine wpAnyH_done (by kernel_rfl) ?_ _
    go_wp2_with fail
    go_ret
    exact ⟨_, _, rfl, O2.out, B2.out⟩
end Go.Proofs.YthcbiohmghaobaaDoor.Vfs
