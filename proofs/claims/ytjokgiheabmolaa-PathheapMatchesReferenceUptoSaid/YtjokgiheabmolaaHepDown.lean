/-
  container/heap's down, up, Init over an interface value whose methods show a list of strings. (H w l: at world w the object shows l.)
-/
import Derived.Test.YtjokgiheabmolaaHeapMath
import Derived.Test.YtjokgiheabmolaaHeapStr
import Derived.Test.YtjokgiheabmolaaStrsArg
import Derived.Test.YtjokgiheabmolaaRows
namespace Go.Proofs.Ytjokgiheabmolaa.Hep
open Go.RowKit

/-- how the methods Less and Swap of the interface value answer -/
structure Mth (T : TypeId) (rv : Value) (gl gs : Nat) (H : World → List ByteArray → Prop) : Prop where
  less : ∀ w l (i j : Nat), H w l → i < l.length → j < l.length → ∃ r, (∀ D, (method (D + 1) T rv "Less").run Try.prog w = .ok (gl, r) w) ∧
    Calls Try.prog gl #[r, .int .i64 i, .int .i64 j] w fun e w' => e = .returned (.bool (decide (¬ Le (g l j) (g l i)))) ∧ H w' l
  swap : ∀ w l (i j : Nat), H w l → i < l.length → j < l.length → ∃ r, (∀ D, (method (D + 1) T rv "Swap").run Try.prog w = .ok (gs, r) w) ∧
    Calls Try.prog gs #[r, .int .i64 i, .int .i64 j] w fun e w' => e = .returned (.tuple #[]) ∧ H w' (swl l i j)
  el : ∀ args w, (callFunc gl args).run Try.prog w = .ok (.enter gl args) w
  es : ∀ args w, (callFunc gs args).run Try.prog w = .ok (.enter gs args) w
/-- the same but for an order among the first n -/
structure Mix (n : Nat) (l l' : List ByteArray) : Prop where
  len : l'.length = l.length
  perm : (l'.take n).Perm (l.take n)
  rest : ∀ k, n ≤ k → g l' k = g l k
theorem Mix.refl (n : Nat) (l : List ByteArray) : Mix n l l := ⟨rfl, List.Perm.refl _, fun _ _ => rfl⟩
theorem Mix.swl {n : Nat} {l l' : List ByteArray} (h : Mix n l l') {i j : Nat} (hi : i < n) (hj : j < n) (hn : n ≤ l.length) : Mix n l (swl l' i j) := by
  have hl := h.len
  refine ⟨by rw [swl_len, hl], ?_, fun k hk => by rw [swl_o (by omega) (by omega)]; exact h.rest k hk⟩
  have e : (Hep.swl l' i j).take n = Hep.swl (l'.take n) i j := by
    unfold Hep.swl
    have g1 : g (l'.take n) j = g l' j := by unfold g; rw [List.getElem?_take, if_pos hj]
    have g2 : g (l'.take n) i = g l' i := by unfold g; rw [List.getElem?_take, if_pos hi]
    rw [g1, g2, List.take_set, List.take_set]
  rw [e]
  exact (swl_perm (by rw [List.length_take]; omega) (by rw [List.length_take]; omega)).trans h.perm

set_option maxRecDepth 100000 in
set_option maxHeartbeats 8000000 in
theorem down_any {T : TypeId} {rv : Value} {gl gs : Nat} {H : World → List ByteArray → Prop} (M : Mth T rv gl gs H) (i0 n lo : Nat) (l : List ByteArray) (w : World) (hw : H w l) (hn : n ≤ l.length) (hb : l.length ≤ 8796093022208) (hi0 : i0 ≤ 8796093022208) (hlo : lo ≤ i0) (hD : D Le lo n l i0) :
    Calls Try.prog 25 #[.iface T rv, .int .i64 i0, .int .i64 n] w fun e w' => ∃ (b : Bool) (l' : List ByteArray), e = .returned (.bool b) ∧ H w' l' ∧ Mix n l l' ∧ HP Le lo n l' := by
  have HM := Lib.hid M; have HW := Lib.hid hw; have HN := Lib.hid hn; have HB := Lib.hid hb; have HD := Lib.hid hD; have HL := Lib.hid hlo
  have nb : (n : Int) ≤ 8796093022208 := by omega
  have ib : (i0 : Int) ≤ 8796093022208 := by omega
  have eL := M.el; have eS := M.es
  clear M hw hn hb hD hlo hi0
  go_enter Try.func25, Try.ntmps25
  go_wp2_with fail
  go_loopw [7] (fun i wr => ∃ (q : Nat) (l' : List ByteArray), i = .int .i64 q ∧ H wr l' ∧ Mix n l l' ∧ D Le lo n l' q ∧ lo ≤ q ∧ (q = i0 ∨ q < n) ∧ q ≤ 8796093022208) (fun i _ => n - (intOf i).toNat)
  case atStart => exact ⟨i0, l, rfl, HW.out, Mix.refl _ _, HD.out, HL.out, .inl rfl, by omega⟩
  case round =>
    obtain ⟨q, l', rfl, hq, hm, hd, hlq, hqn, hqb⟩ := hrel
    have HQ := Lib.hid hq; have HX := Lib.hid hm; have HDD := Lib.hid hd; have LQ := Lib.hid hlq
    have LN : Hid (n ≤ l'.length) := by show _ ≤ _; rw [hm.len]; exact HN.out
    have qb : (q : Int) ≤ 8796093022208 := by omega
    clear hq hm hd hlq hqn
    by_cases h1 : 2 * q + 1 < n
    · -- ROUND
      obtain ⟨J1, hJ1⟩ := named (2 * q + 1)
      obtain ⟨J2, hJ2⟩ := named (2 * q + 2)
      have e1 : 2 * (q : Int) + 1 = (J1 : Int) := by have := hJ1.out; omega
      have e2 : (J1 : Int) + 1 = (J2 : Int) := by have := hJ1.out; have := hJ2.out; omega
      have JL1 : Hid (J1 < n) := by show _ < _; rw [hJ1.out]; exact h1
      have J01 : Hid (0 < J1) := by show _ < _; have := hJ1.out; omega
      have J02 : Hid (0 < J2) := by show _ < _; have := hJ2.out; omega
      have JP1 : Hid (par J1 = q) := (par_child J01.out).mpr (.inl hJ1.out)
      have JP2 : Hid (par J2 = q) := (par_child J02.out).mpr (.inr hJ2.out)
      have d1 : (J1 : Int) < n := by have := JL1.out; omega
      have d2 : (0 : Int) ≤ J1 := by omega
      have jb : (J1 : Int) ≤ 8796093022208 := by omega
      clear h1
      by_cases h2 : J2 < n
      · have JL2 := Lib.hid h2
        have d3 : (J2 : Int) < n := by omega
        clear h2
        obtain ⟨r1, hr1, hc1⟩ := HM.out.less wr l' J2 J1 HQ.out (by have := LN.out; have := JL2.out; omega) (by have := LN.out; have := JL1.out; omega)
        have C1 := Lib.hid hc1
        clear hc1
        by_cases hle : Le (g l' J1) (g l' J2)
        · have HMN : Hid (∀ c, 0 < c → c < n → par c = q → Le (g l' J1) (g l' c)) := fun c h0 hc hp => by
            rcases (par_child h0).mp hp with e | e
            · rw [e, ← hJ1.out]; exact le_rf _
            · rw [e, ← hJ2.out]; exact hle
          rw [decide_eq_false (fun h => h hle)] at C1
          clear hle
          go_wp2_with fail
          refine C1.out.mono ?_; rintro e w3 ⟨rfl, h3⟩
          have H3 := Lib.hid h3
          clear h3 hr1
          obtain ⟨r2, hr2, hc2⟩ := HM.out.less w3 l' J1 q H3.out (by have := LN.out; have := JL1.out; omega) (by have := LN.out; have := JL1.out; have := hJ1.out; omega)
          have C2 := Lib.hid hc2
          clear hc2
          by_cases hle : Le (g l' q) (g l' J1)
          · have RES := Lib.hid (HDD.out.done le_tr HMN.out hle)
            rw [decide_eq_false (fun h => h hle)] at C2
            clear hle
            go_wp2_with fail
            refine C2.out.mono ?_; rintro e w4 ⟨rfl, h4⟩
            have H4 := Lib.hid h4
            clear h4 hr2
            go_wp2_with fail
            go_ret
            exact ⟨_, l', rfl, H4.out, HX.out, RES.out⟩
          · have RES := Lib.hid (HDD.out.step LN.out J01.out JL1.out JP1.out LQ.out HMN.out ((le_tot _ _).resolve_right hle))
            rw [decide_eq_true hle] at C2
            clear hle
            go_wp2_with fail
            refine C2.out.mono ?_; rintro e w4 ⟨rfl, h4⟩
            have H4 := Lib.hid h4
            clear h4 hr2
            obtain ⟨r3, hr3, hc3⟩ := HM.out.swap w4 l' q J1 H4.out (by have := LN.out; have := JL1.out; have := hJ1.out; omega) (by have := LN.out; have := JL1.out; omega)
            have C3 := Lib.hid hc3
            clear hc3
            go_wp2_with fail
            refine C3.out.mono ?_; rintro e w5 ⟨rfl, h5⟩
            have H5 := Lib.hid h5
            clear h5 hr3
            go_wp2_with fail
            go_round
            case rel => exact ⟨J1, swl l' q J1, by go_num, H5.out, HX.out.swl (by have := JL1.out; have := hJ1.out; omega) JL1.out HN.out, RES.out, by have := LQ.out; have := hJ1.out; have := hJ2.out; omega, .inr JL1.out, by have := JL1.out; have := HN.out; have := HB.out; omega⟩
            case measure => simp [intOf]; have := JL1.out; have := hJ1.out; have := hJ2.out; omega
        · have HMN : Hid (∀ c, 0 < c → c < n → par c = q → Le (g l' J2) (g l' c)) := fun c h0 hc hp => by
            rcases (par_child h0).mp hp with e | e
            · rw [e, ← hJ1.out]; exact (le_tot _ _).resolve_left hle
            · rw [e, ← hJ2.out]; exact le_rf _
          rw [decide_eq_true hle] at C1
          clear hle
          go_wp2_with fail
          refine C1.out.mono ?_; rintro e w3 ⟨rfl, h3⟩
          have H3 := Lib.hid h3
          clear h3 hr1
          obtain ⟨r2, hr2, hc2⟩ := HM.out.less w3 l' J2 q H3.out (by have := LN.out; have := JL2.out; omega) (by have := LN.out; have := JL1.out; have := hJ1.out; omega)
          have C2 := Lib.hid hc2
          clear hc2
          by_cases hle : Le (g l' q) (g l' J2)
          · have RES := Lib.hid (HDD.out.done le_tr HMN.out hle)
            rw [decide_eq_false (fun h => h hle)] at C2
            clear hle
            go_wp2_with fail
            refine C2.out.mono ?_; rintro e w4 ⟨rfl, h4⟩
            have H4 := Lib.hid h4
            clear h4 hr2
            go_wp2_with fail
            go_ret
            exact ⟨_, l', rfl, H4.out, HX.out, RES.out⟩
          · have RES := Lib.hid (HDD.out.step LN.out J02.out JL2.out JP2.out LQ.out HMN.out ((le_tot _ _).resolve_right hle))
            rw [decide_eq_true hle] at C2
            clear hle
            go_wp2_with fail
            refine C2.out.mono ?_; rintro e w4 ⟨rfl, h4⟩
            have H4 := Lib.hid h4
            clear h4 hr2
            obtain ⟨r3, hr3, hc3⟩ := HM.out.swap w4 l' q J2 H4.out (by have := LN.out; have := JL1.out; have := hJ1.out; omega) (by have := LN.out; have := JL2.out; omega)
            have C3 := Lib.hid hc3
            clear hc3
            go_wp2_with fail
            refine C3.out.mono ?_; rintro e w5 ⟨rfl, h5⟩
            have H5 := Lib.hid h5
            clear h5 hr3
            go_wp2_with fail
            go_round
            case rel => exact ⟨J2, swl l' q J2, by go_num, H5.out, HX.out.swl (by have := JL1.out; have := hJ1.out; omega) JL2.out HN.out, RES.out, by have := LQ.out; have := hJ1.out; have := hJ2.out; omega, .inr JL2.out, by have := JL2.out; have := HN.out; have := HB.out; omega⟩
            case measure => simp [intOf]; have := JL2.out; have := hJ1.out; have := hJ2.out; omega
      · have d3 : ¬ (J2 : Int) < n := by omega
        have HMN : Hid (∀ c, 0 < c → c < n → par c = q → Le (g l' J1) (g l' c)) := fun c h0 hc hp => by
          rcases (par_child h0).mp hp with e | e
          · rw [e, ← hJ1.out]; exact le_rf _
          · have := hJ2.out; omega
        clear h2
        obtain ⟨r2, hr2, hc2⟩ := HM.out.less wr l' J1 q HQ.out (by have := LN.out; have := JL1.out; omega) (by have := LN.out; have := JL1.out; have := hJ1.out; omega)
        have C2 := Lib.hid hc2
        clear hc2
        by_cases hle : Le (g l' q) (g l' J1)
        · have RES := Lib.hid (HDD.out.done le_tr HMN.out hle)
          rw [decide_eq_false (fun h => h hle)] at C2
          clear hle
          go_wp2_with fail
          refine C2.out.mono ?_; rintro e w4 ⟨rfl, h4⟩
          have H4 := Lib.hid h4
          clear h4 hr2
          go_wp2_with fail
          go_ret
          exact ⟨_, l', rfl, H4.out, HX.out, RES.out⟩
        · have RES := Lib.hid (HDD.out.step LN.out J01.out JL1.out JP1.out LQ.out HMN.out ((le_tot _ _).resolve_right hle))
          rw [decide_eq_true hle] at C2
          clear hle
          go_wp2_with fail
          refine C2.out.mono ?_; rintro e w4 ⟨rfl, h4⟩
          have H4 := Lib.hid h4
          clear h4 hr2
          obtain ⟨r3, hr3, hc3⟩ := HM.out.swap w4 l' q J1 H4.out (by have := LN.out; have := JL1.out; have := hJ1.out; omega) (by have := LN.out; have := JL1.out; omega)
          have C3 := Lib.hid hc3
          clear hc3
          go_wp2_with fail
          refine C3.out.mono ?_; rintro e w5 ⟨rfl, h5⟩
          have H5 := Lib.hid h5
          clear h5 hr3
          go_wp2_with fail
          go_round
          case rel => exact ⟨J1, swl l' q J1, by go_num, H5.out, HX.out.swl (by have := JL1.out; have := hJ1.out; omega) JL1.out HN.out, RES.out, by have := LQ.out; have := hJ1.out; have := hJ2.out; omega, .inr JL1.out, by have := JL1.out; have := HN.out; have := HB.out; omega⟩
          case measure => simp [intOf]; have := JL1.out; have := hJ1.out; have := hJ2.out; omega
    · have d1 : (n : Int) ≤ 2 * (q : Int) + 1 := by omega
      have RES := Lib.hid (HDD.out.leaf (by omega))
      clear h1
      go_wp2_with fail
      go_ret
      exact ⟨_, l', rfl, HQ.out, HX.out, RES.out⟩
end Go.Proofs.Ytjokgiheabmolaa.Hep
