/-
  Layer 19: the program's List.
-/
import Derived.Test.YthcbiohmghaobaaDoorVfsTd
import Derived.Test.YthcbiohmghaobaaDoorVfsRot
namespace Go.Proofs.YthcbiohmghaobaaDoor.Vfs
open Go.RowKit Go.MapKept Go.Proofs.YthcbiohmghaobaaDoor.Pnm Flt

/-- what List answers -/
noncomputable def lsE (s : St) (p : ByteArray) : Int := match fnd s.ps p with
  | none => 19
  | some i => if (s.at i).k = 0 then 0 else 8
noncomputable def lsV (R : List Int) (s : St) (p : ByteArray) : List ByteArray := match fnd s.ps p with
  | none => []
  | some i => if (s.at i).k = 0 then trnV (srtB (s.at i).ns) (rotV R s) else []
noncomputable def lsN (s : St) (p : ByteArray) : St := if lsE s p = 0 then lsS s else s
section
variable {N : Nat} {F S : Int} {R : List Int} {T : Nat → Prop} {w : World} {f : Nat} {s : St}
theorem rotV_nn (hz : ∀ z ∈ R, 0 ≤ z) : 0 ≤ rotV R s := by
  unfold rotV
  split
  · exact Int.le_refl _
  · rename_i h
    have hl : s.ls % R.length < R.length := Nat.mod_lt _ (by omega)
    rw [List.getD_eq_getElem?_getD, List.getElem?_eq_getElem hl]
    exact hz _ (List.getElem_mem _)
set_option maxRecDepth 100000 in
set_option maxHeartbeats 4000000 in
theorem list_any (h : FsS N F S R T w f s) (hN2 : N ≤ 1000000) (p : ByteArray) :
    Calls Tryd.prog 17 #[.pointer (some ⟨f, 0, none⟩), .string p] w fun e w' => ∃ a n c, e = .returned (.tuple #[.slice a n c, .int .i64 (lsE s p)]) ∧ w'.ownsRow w.heap.size 9 1 (.slice a n c) n (ssC (lsV R s p)) ∧ Only T w w' ∧ FsS N F S R T w' f (lsN s p) := by
  have HH := Lib.hid h
  obtain ⟨W, D, mp, nm, ra, rc, M, hF, hT, hL⟩ := h
  have HF := Lib.hid hF; have HT := Lib.hid hT; have HL := Lib.hid hL
  have BAD : Hid (lsE s p ≠ 0 → lsV R s p = [] → ∃ a n c, Ending.returned (.tuple #[.slice none 0 0, .int .i64 (lsE s p)]) = .returned (.tuple #[.slice a n c, .int .i64 (lsE s p)]) ∧ w.ownsRow w.heap.size 9 1 (.slice a n c) n (ssC (lsV R s p)) ∧ Only T w w ∧ FsS N F S R T w f (lsN s p)) := fun he hv => by
    refine ⟨none, 0, 0, rfl, by rw [hv]; exact ⟨rfl, .inl ⟨rfl, rfl⟩⟩, Only.refl _ _, ?_⟩
    unfold lsN; rw [if_neg he]; exact HH.out
  cases hf : fnd s.ps p with
  | none =>
    have FI := Lib.hid (kind_none HF.out hf 0)
    have e1 : lsE s p = 19 := by unfold lsE; rw [hf]
    have e2 : lsV R s p = [] := by unfold lsV; rw [hf]
    have BAD := Lib.hid (BAD.out (by rw [e1]; decide) e2)
    rw [e1] at BAD ⊢
    clear e1 e2 hf hF hT hL HH
    go_enter Tryd.func17, Tryd.ntmps17
    go_wp2_with fail
    refine FI.out.mono ?_; rintro e w2 ⟨rfl, rfl⟩
    go_wp2_with fail
    go_ret2
    exact BAD.out
  | some i =>
    obtain ⟨y, hy, _, hI⟩ := HF.out.get hf
    have hkind := kind_some HF.out hf hy 0
    by_cases hk : (s.at i).k = 0
    · rw [if_pos hk] at hkind
      have FI := Lib.hid hkind
      have e1 : lsE s p = 0 := by unfold lsE; rw [hf]; exact if_pos hk
      have e2 : lsV R s p = trnV (srtB (s.at i).ns) (rotV R s) := by unfold lsV; rw [hf]; exact if_pos hk
      have e3 : lsN s p = lsS s := by unfold lsN; rw [if_pos e1]
      rw [e1, e2, e3]
      have hnl := HF.out.wf.ns (s.at i) (at_mem (HF.out.wf.lt hf))
      have hps := HF.out.wf.p
      obtain ⟨r, hr⟩ := named (rotV R s)
      have r0 : 0 ≤ r := by rw [hr.out]; exact rotV_nn HF.out.rz
      have hno := hI.n
      obtain ⟨ns, hns⟩ := named (s.at i).ns
      rw [← hns.out] at hno hnl ⊢
      rw [← hr.out]
      obtain ⟨a, c, hv, hac, _⟩ := own_slice hno
      have c9 : w.cell? ⟨y.g, 9, none⟩ = some (.slice a ns.length c) := by rw [← hv]; exact hI.o.get 9 rfl
      rw [hv] at hno
      obtain ⟨a', c', hv', _, _, _, sin, _⟩ := SsIn.of_own hno
      simp only [Value.slice.injEq, true_and] at hv'
      obtain ⟨rfl, rfl⟩ := hv'
      have SI := Lib.hid sin
      have AB : Hid (∀ x, a = some x → x.block < w.heap.size) := fun x hx => (own_under hno x.block (by rw [hx]; rfl)).2
      obtain ⟨n, hn⟩ := named ns.length
      rw [← hn.out] at c9 hac
      have NL : Hid (n ≤ 1000000) := by show _ ≤ _; rw [hn.out]; omega
      have AC := Lib.hid hac
      have VA := Lib.hid (callsIn_wide.1 (vals_in Fence.wide 1 trivial rfl a n c w))
      have RT := Lib.hid fun w' (hb : Below w.heap.size w w') => rot_any (HF.out.below hb)
      have HR := Lib.hid hr.out; have HN := Lib.hid hn.out
      clear e1 e2 e3 hf hF hT hL hkind hy hI hk hnl hps hno sin hv hns hr hn BAD HH hac
      go_enter Tryd.func17, Tryd.ntmps17
      go_wp2_with fail
      refine FI.out.mono ?_; rintro e w1 ⟨rfl, rfl⟩
      go_wp2_with fail
      refine VA.out.mono ?_; rintro e w1 ⟨rfl, rfl⟩
      have B1 : Hid (Below w.heap.size w (w.alloc (.cells #[.slice a n c] 44))) := (Below.refl _ w).alloc (Nat.le_refl _) _
      have G1 : ObjAt (w.alloc (.cells #[.slice a n c] 44)) w.heap.size 44 [.slice a n c] := heap_alloc_new w _
      obtain ⟨w1, hw1⟩ : ∃ w1, w1 = w.alloc (.cells #[.slice a n c] 44) := ⟨_, rfl⟩
      rw [← hw1] at B1 G1 ⊢
      have SR := Lib.hid (sorted_any w1 w.heap.size n c a ns G1.lt (G1.get 0 rfl) (SI.out.below B1.out) HN.out.symm AC.out (by have := NL.out; omega) fun x hx => Nat.lt_of_lt_of_le (AB.out x hx) B1.out.size)
      clear hw1 G1 c9
      go_wp2_with fail
      refine SR.out.mono ?_; rintro e w2 ⟨a2, c2, rfl, o2, b2⟩
      have O2 := Lib.hid o2; have B2 := Lib.hid (B1.out.trans (b2.mono B1.out.size)); have Z1 := Lib.hid B1.out.size
      clear o2 b2 SR
      go_wp2_with fail
      refine (RT.out w2 B2.out).mono ?_; rintro e w3 ⟨rfl, f3, u3⟩
      rw [← HR.out]
      have F3 := Lib.hid f3; have U3 := Lib.hid u3
      have O3 : Hid (w3.ownsRow w1.heap.size 9 1 (.slice a2 n c2) n (ssC (srtB ns))) := own_keepS O2.out fun g hg hl => u3.block g hl fun e => by
        have := (own_under O2.out g hg).1
        have := HF.out.o.lt; have := Z1.out
        omega
      obtain ⟨a', c', hv', jn, hnc, _, sin, _⟩ := SsIn.of_own O3.out
      simp only [Value.slice.injEq, true_and] at hv'
      obtain ⟨rfl, rfl⟩ := hv'
      have TD := Lib.hid (turned_any sin (by rw [srtB_len]; exact HN.out.symm) hnc (by have := NL.out; omega) r r0)
      clear f3 u3 sin hnc jn
      go_wp2_with fail
      refine TD.out.mono ?_; rintro e w4 ⟨a4, c4, rfl, o4, b4⟩
      have O4 := Lib.hid o4; have B4 := Lib.hid b4
      clear o4 b4 TD
      go_wp2_with fail
      go_ret2
      have s2 := B2.out.size; have s3 := U3.out.size; have s4 := B4.out.size
      have o : Only T w w4 := only_below (only_only (Only.of_below B2.out (Nat.le_refl _)) U3.out fun k hk => .inl (by rw [hk]; exact HT.out f (.inl HF.out.wfb))) B4.out
      exact ⟨a4, n, c4, rfl, own_lower O4.out (by omega), o, W, D, mp, nm, ra, rc, M, F3.out.below B4.out, HT.out, fun k hk => Nat.lt_of_lt_of_le (HL.out k hk) o.size⟩
    · rw [if_neg hk] at hkind
      have FI := Lib.hid hkind
      have e1 : lsE s p = 8 := by unfold lsE; rw [hf]; exact if_neg hk
      have e2 : lsV R s p = [] := by unfold lsV; rw [hf]; exact if_neg hk
      have BAD := Lib.hid (BAD.out (by rw [e1]; decide) e2)
      rw [e1] at BAD ⊢
      clear e1 e2 hf hF hT hL HH hkind hy hI hk
      go_enter Tryd.func17, Tryd.ntmps17
      go_wp2_with fail
      refine FI.out.mono ?_; rintro e w2 ⟨rfl, rfl⟩
      go_wp2_with fail
      go_ret2
      exact BAD.out
end
end Go.Proofs.YthcbiohmghaobaaDoor.Vfs
