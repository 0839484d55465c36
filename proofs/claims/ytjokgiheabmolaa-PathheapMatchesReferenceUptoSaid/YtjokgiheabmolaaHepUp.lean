/-
  container/heap's up over an interface value whose methods show a list of strings.
-/
import Derived.Test.YtjokgiheabmolaaHepDown
namespace Go.Proofs.Ytjokgiheabmolaa.Hep
open Go.RowKit

set_option maxRecDepth 100000 in
set_option maxHeartbeats 8000000 in
theorem up_any {T : TypeId} {rv : Value} {gl gs : Nat} {H : World → List ByteArray → Prop} (M : Mth T rv gl gs H) (j n : Nat) (l : List ByteArray) (w : World) (hw : H w l) (hn : n = l.length) (hb : l.length ≤ 8796093022208) (hj : j < n) (hU : U Le n l j) :
    Calls Try.prog 24 #[.iface T rv, .int .i64 j] w fun e w' => ∃ l' : List ByteArray, e = .returned (.tuple #[]) ∧ H w' l' ∧ l'.Perm l ∧ HP Le 0 n l' := by
  have HM := Lib.hid M; have HW := Lib.hid hw; have HN := Lib.hid hn; have HB := Lib.hid hb; have HU := Lib.hid hU
  have nb : (n : Int) ≤ 8796093022208 := by omega
  have eL := M.el; have eS := M.es
  clear M hw hn hb hU
  go_enter Try.func24, Try.ntmps24
  go_wp2_with fail
  go_loopw [1] (fun i wr => ∃ (q : Nat) (l' : List ByteArray), i = .int .i64 q ∧ H wr l' ∧ l'.Perm l ∧ U Le n l' q ∧ q < n) (fun i _ => (intOf i).toNat)
  case atStart => exact ⟨j, l, rfl, HW.out, List.Perm.refl _, HU.out, hj⟩
  case round =>
    obtain ⟨q, l', rfl, hq, hp, hd, hqn⟩ := hrel
    have HQ := Lib.hid hq; have HX := Lib.hid hp; have HDD := Lib.hid hd
    have LN : Hid (l'.length = n) := by show _ = _; rw [hp.length_eq]; exact HN.out.symm
    have QN := Lib.hid hqn
    have qb : (q : Int) < n := by omega
    clear hq hp hd hqn
    by_cases h0 : q = 0
    · subst h0
      have RES := Lib.hid (HDD.out.stop (.inl rfl))
      go_wp2_with fail
      refine bodyPost_end (results_none Try.results24 _ _ _) rfl ?_
      exact ⟨l', rfl, HQ.out, HX.out, RES.out⟩
    · obtain ⟨P, hP⟩ := named (par q)
      have PQ : Hid (P < q) := by show _ < _; rw [hP.out]; exact par_lt (Nat.pos_of_ne_zero h0)
      have Q0 : Hid (0 < q) := Nat.pos_of_ne_zero h0
      have t1 : Int.tdiv ((q : Int) - 1) 2 = (P : Int) := by
        rw [hP.out]; unfold par
        rw [Int.tdiv_eq_ediv_of_nonneg (by omega)]; omega
      have ne : ¬ (P : Int) = (q : Int) := by have := PQ.out; omega
      have ne' : ((P : Int) == (q : Int)) = false := by simpa using ne
      have q1 : (1 : Int) ≤ q := by omega
      have pb : (P : Int) < n := by have := PQ.out; have := QN.out; omega
      obtain ⟨r1, hr1, hc1⟩ := HM.out.less wr l' q P HQ.out (by have := LN.out; have := QN.out; omega) (by have := LN.out; have := QN.out; have := PQ.out; omega)
      have C1 := Lib.hid hc1
      clear hc1 h0
      by_cases hle : Le (g l' P) (g l' q)
      · have RES := Lib.hid (HDD.out.stop (.inr (by rw [← hP.out]; exact hle)))
        rw [decide_eq_false (fun h => h hle)] at C1
        clear hle
        go_wp2_with fail
        refine C1.out.mono ?_; rintro e w3 ⟨rfl, h3⟩
        have H3 := Lib.hid h3
        clear h3 hr1
        go_wp2_with fail
        refine bodyPost_end (results_none Try.results24 _ _ _) rfl ?_
        exact ⟨l', rfl, H3.out, HX.out, RES.out⟩
      · have RES : Hid (U Le n (swl l' P q) P) := by
          have := HDD.out.step le_tr (by rw [LN.out]; exact Nat.le_refl _) Q0.out QN.out (by rw [← hP.out]; exact (le_tot _ _).resolve_left hle)
          rw [← hP.out] at this
          exact this
        rw [decide_eq_true hle] at C1
        clear hle
        go_wp2_with fail
        refine C1.out.mono ?_; rintro e w3 ⟨rfl, h3⟩
        have H3 := Lib.hid h3
        clear h3 hr1
        obtain ⟨r3, hr3, hc3⟩ := HM.out.swap w3 l' P q H3.out (by have := LN.out; have := QN.out; have := PQ.out; omega) (by have := LN.out; have := QN.out; omega)
        have C3 := Lib.hid hc3
        clear hc3
        go_wp2_with fail
        refine C3.out.mono ?_; rintro e w5 ⟨rfl, h5⟩
        have H5 := Lib.hid h5
        clear h5 hr3
        go_wp2_with fail
        go_round
        case rel => exact ⟨P, swl l' P q, rfl, H5.out, (swl_perm (by have := LN.out; have := QN.out; have := PQ.out; omega) (by have := LN.out; have := QN.out; omega)).trans HX.out, RES.out, by have := QN.out; have := PQ.out; omega⟩
        case measure => simp [intOf]; have := PQ.out; omega

/-- the method Len of the interface value -/
structure MthL (T : TypeId) (rv : Value) (gn : Nat) (H : World → List ByteArray → Prop) : Prop where
  len : ∀ w l, H w l → ∃ r, (∀ D, (method (D + 1) T rv "Len").run Try.prog w = .ok (gn, r) w) ∧
    Calls Try.prog gn #[r] w fun e w' => e = .returned (.int .i64 (l.length : Int)) ∧ H w' l
  en : ∀ args w, (callFunc gn args).run Try.prog w = .ok (.enter gn args) w

end Go.Proofs.Ytjokgiheabmolaa.Hep
