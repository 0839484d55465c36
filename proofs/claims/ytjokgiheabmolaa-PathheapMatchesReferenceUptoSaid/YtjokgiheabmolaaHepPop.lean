/-
  container/heap's Push and Pop over an interface value whose methods show a list of strings.
-/
import Derived.Test.YtjokgiheabmolaaHepUp
namespace Go.Proofs.Ytjokgiheabmolaa.Hep
open Go.RowKit

/-- the methods Push and Pop of the interface value -/
structure MthP (T : TypeId) (rv : Value) (gp gq : Nat) (H : World → List ByteArray → Prop) : Prop where
  push : ∀ w l (s : ByteArray), H w l → l.length < 8796093022208 → s.size ≤ 140737488355328 → ∃ r, (∀ D, (method (D + 1) T rv "Push").run Try.prog w = .ok (gp, r) w) ∧
    Calls Try.prog gp #[r, .iface 9 (.string s)] w fun e w' => e = .returned (.tuple #[]) ∧ H w' (l ++ [s])
  pop : ∀ w l (n : Nat), H w l → l.length = n + 1 → ∃ r, (∀ D, (method (D + 1) T rv "Pop").run Try.prog w = .ok (gq, r) w) ∧
    Calls Try.prog gq #[r] w fun e w' => e = .returned (.iface 9 (.string (g l n))) ∧ H w' (l.take n)
  ep : ∀ args w, (callFunc gp args).run Try.prog w = .ok (.enter gp args) w
  eq : ∀ args w, (callFunc gq args).run Try.prog w = .ok (.enter gq args) w

set_option maxRecDepth 100000 in
set_option maxHeartbeats 8000000 in
theorem hpush_any {T : TypeId} {rv : Value} {gl gs gn gp gq : Nat} {H : World → List ByteArray → Prop} (M : Mth T rv gl gs H) (ML : MthL T rv gn H) (MP : MthP T rv gp gq H) (s : ByteArray) (l : List ByteArray) (w : World) (hw : H w l) (hb : l.length < 8796093022208) (hz : s.size ≤ 140737488355328) (hh : HP Le 0 l.length l) :
    Calls Try.prog 20 #[.iface T rv, .iface 9 (.string s)] w fun e w' => ∃ l' : List ByteArray, e = .returned (.tuple #[]) ∧ H w' l' ∧ l'.Perm (s :: l) ∧ HP Le 0 (l.length + 1) l' := by
  have HM := Lib.hid M; have HML := Lib.hid ML; have HB := Lib.hid hb
  obtain ⟨r0, hr0, hc0⟩ := MP.push w l s hw hb hz
  have eN := ML.en; have eP := MP.ep
  have C0 := Lib.hid hc0
  obtain ⟨n, hn⟩ := named l.length
  have US : Hid (U Le (n + 1) (l ++ [s]) n) := by show U _ _ _ _; rw [hn.out]; exact .start hh
  have nb : (n : Int) < 8796093022208 := by rw [hn.out]; omega
  rw [← hn.out]
  clear M ML MP hw hb hz hc0 hh
  go_enter Try.func20, Try.ntmps20
  go_wp2_with fail
  refine C0.out.mono ?_; rintro e w1 ⟨rfl, h1⟩
  have H1 := Lib.hid h1
  clear h1 hr0
  obtain ⟨r1, hr1, hc1⟩ := HML.out.len w1 _ H1.out
  rw [List.length_append, List.length_singleton, ← hn.out] at hc1
  have C1 := Lib.hid hc1
  clear hc1
  go_wp2_with fail
  refine C1.out.mono ?_; rintro e w2 ⟨rfl, h2⟩
  have H2 := Lib.hid h2
  clear h2 hr1
  have e1 : ((n + 1 : Nat) : Int) - 1 = (n : Int) := by omega
  have e2 : ((n + 1 : Nat) : Int) ≤ 8796093022208 := by omega
  have UP : Hid (Calls Try.prog 24 #[.iface T rv, .int .i64 n] w2 fun e w' => ∃ l' : List ByteArray, e = .returned (.tuple #[]) ∧ H w' l' ∧ l'.Perm (l ++ [s]) ∧ HP Le 0 (n + 1) l') :=
    up_any HM.out n (n + 1) (l ++ [s]) w2 H2.out (by rw [List.length_append, List.length_singleton, hn.out]) (by rw [List.length_append, List.length_singleton]; have := HB.out; omega) (Nat.lt_succ_self n) US.out
  go_wp2_with fail
  refine UP.out.mono ?_; rintro e w3 ⟨l', rfl, h3, hp, hhp⟩
  have H3 := Lib.hid h3; have P3 := Lib.hid (hp.trans List.perm_append_comm); have HP3 := Lib.hid hhp
  clear h3 hp hhp
  go_wp2_with fail
  refine bodyPost_end (results_none Try.results20 _ _ _) rfl ?_
  exact ⟨l', rfl, H3.out, P3.out, HP3.out⟩

set_option maxRecDepth 100000 in
set_option maxHeartbeats 8000000 in
theorem hpop_any {T : TypeId} {rv : Value} {gl gs gn gp gq : Nat} {H : World → List ByteArray → Prop} (M : Mth T rv gl gs H) (ML : MthL T rv gn H) (MP : MthP T rv gp gq H) (n : Nat) (x : ByteArray) (m l : List ByteArray) (w : World) (hw : H w l) (hb : l.length ≤ 8796093022208) (hl : l.length = n + 1) (hh : HP Le 0 (n + 1) l) (hs : (x :: m).Pairwise Le) (hp : l.Perm (x :: m)) :
    Calls Try.prog 21 #[.iface T rv] w fun e w' => ∃ l' : List ByteArray, e = .returned (.iface 9 (.string x)) ∧ H w' l' ∧ l'.Perm m ∧ HP Le 0 n l' := by
  have HM := Lib.hid M; have HMP := Lib.hid MP; have HB := Lib.hid hb; have HL := Lib.hid hl
  obtain ⟨r0, hr0, hc0⟩ := ML.len w l hw
  have eN := ML.en; have eQ := MP.eq; have eS := M.es
  rw [hl] at hc0
  have C0 := Lib.hid hc0
  have RT : Hid (g l 0 = x) := root_head le_rf le_tr le_an (by rw [hl]; exact hh) hs hp
  have PR := Lib.hid (pop_rest (n := n) hl RT.out hp)
  have DP : Hid (D Le 0 n (swl l 0 n) 0) := .pop hh
  have nb : (n : Int) ≤ 8796093022208 := by omega
  have e1 : ((n + 1 : Nat) : Int) - 1 = (n : Int) := by omega
  have e2 : ((n + 1 : Nat) : Int) ≤ 8796093022209 := by omega
  clear M ML MP hw hb hc0 hh hl hs hp
  go_enter Try.func21, Try.ntmps21
  go_wp2_with fail
  refine C0.out.mono ?_; rintro e w1 ⟨rfl, h1⟩
  have H1 := Lib.hid h1
  clear h1 hr0
  obtain ⟨r1, hr1, hc1⟩ := HM.out.swap w1 l 0 n H1.out (by have := HL.out; omega) (by have := HL.out; omega)
  have C1 : Hid (Calls Try.prog gs #[r1, .int .i64 0, .int .i64 n] w1 fun e w' => e = .returned (.tuple #[]) ∧ H w' (swl l 0 n)) := hc1
  clear hc1
  go_wp2_with fail
  refine C1.out.mono ?_; rintro e w2 ⟨rfl, h2⟩
  have H2 := Lib.hid h2
  clear h2 hr1
  have DC : Hid (Calls Try.prog 25 #[.iface T rv, .int .i64 0, .int .i64 n] w2 fun e w' => ∃ (b : Bool) (l2 : List ByteArray), e = .returned (.bool b) ∧ H w' l2 ∧ Mix n (swl l 0 n) l2 ∧ HP Le 0 n l2) :=
    down_any HM.out 0 n 0 (swl l 0 n) w2 H2.out (by rw [swl_len, HL.out]; omega) (by rw [swl_len]; exact HB.out) (by omega) (Nat.le_refl _) DP.out
  go_wp2_with fail
  refine DC.out.mono ?_; rintro e w3 ⟨b, l2, rfl, h3, hx, hhp⟩
  have H3 := Lib.hid h3
  have L2 : Hid (l2.length = n + 1) := by show _ = _; rw [hx.len, swl_len, HL.out]
  have G2 : Hid (g l2 n = x) := (hx.rest n (Nat.le_refl _)).trans PR.out.2
  have P2 := Lib.hid (hx.perm.trans PR.out.1)
  have HP2 := Lib.hid (HP.take hhp (Nat.le_refl n))
  clear h3 hx hhp
  obtain ⟨r3, hr3, hc3⟩ := HMP.out.pop w3 l2 n H3.out L2.out
  rw [G2.out] at hc3
  have C3 := Lib.hid hc3
  clear hc3
  go_wp2_with fail
  refine C3.out.mono ?_; rintro e w4 ⟨rfl, h4⟩
  have H4 := Lib.hid h4
  clear h4 hr3
  go_wp2_with fail
  go_ret
  exact ⟨_, rfl, H4.out, P2.out, HP2.out⟩
end Go.Proofs.Ytjokgiheabmolaa.Hep
