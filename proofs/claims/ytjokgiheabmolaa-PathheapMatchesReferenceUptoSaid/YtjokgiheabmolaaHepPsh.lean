/-
  The heap's Push and New.
-/
import Derived.Test.YtjokgiheabmolaaHepHp
namespace Go.Proofs.Ytjokgiheabmolaa.Hep
open Go.RowKit

/-- what Pop and Peek answer -/
def hdd (m : List ByteArray) : ByteArray := m.headD ⟨#[]⟩
theorem gpop_any {w : World} {S : Nat → Prop} {gg : Nat} {m : List ByteArray} (h : Hq S gg w m) (hb : m.length ≤ 8796093022208) :
    Calls Try.prog 10 #[.pointer (some ⟨gg, 0, none⟩)] w fun e w' => e = .returned (.tuple #[.string (hdd m), .bool (!m.isEmpty)]) ∧ Only S w w' ∧ Hq (Grow S w w') gg w' m.tail := by
  cases m with
  | nil => exact (gpop_none h.1).mono fun e w' ⟨q1, q2⟩ => by subst q2; exact ⟨q1, .refl _ _, h.wide (fun k hk => .inl hk) fun k hk => Or.elim hk (h.2 k) fun q => q.2⟩
  | cons x r => exact gpop (m := r) h (by rw [List.length_cons] at hb; omega)
theorem gpeek_any {w0 w : World} {S0 : Nat → Prop} {gg : Nat} {m : List ByteArray} (h : Hp w0 S0 gg w m) :
    Calls Try.prog 11 #[.pointer (some ⟨gg, 0, none⟩)] w fun e w' => e = .returned (.tuple #[.string (hdd m), .bool (!m.isEmpty)]) ∧ w = w' := by
  cases m with
  | nil => exact gpeek_none h
  | cons x r => exact gpeek h
theorem _root_.Go.Proofs.Ytjokgiheabmolaa.SsIn.only {S : Nat → Prop} {w w' : World} {a : Option Addr} {ys : List ByteArray} (h : SsIn w a ys) (ho : Only S w w') (hd : ys = [] ∨ ∀ x, a = some x → ¬ S x.block) : SsIn w' a ys := by
  rcases h with h | ⟨b, off, rfl, h2, h3⟩
  · exact .inl h
  · rcases hd with hd | hd
    · exact .inl hd
    · exact .inr ⟨b, off, rfl, Nat.lt_of_lt_of_le h2 ho.size, h3.block (ho.block b h2 (hd _ rfl))⟩
theorem _root_.Go.Proofs.Ytjokgiheabmolaa.ArgSs.only {S : Nat → Prop} {w w' : World} {a : Option Addr} {n cap : Nat} {ys : List ByteArray} (h : ArgSs w a n cap ys) (ho : Only S w w') (hd : ys = [] ∨ ∀ x, a = some x → ¬ S x.block) : ArgSs w' a n cap ys := ⟨h.n, h.c, h.m, SsIn.only h.r ho hd, h.s⟩
theorem _root_.Go.Proofs.Ytjokgiheabmolaa.ArgSs.nil (w : World) : ArgSs w none 0 0 [] := ⟨rfl, Nat.le_refl _, Nat.zero_le _, .inl rfl, fun _ h => by cases h⟩
theorem ins_len (m : List ByteArray) (s : ByteArray) : (ins m s).length = m.length + 1 := (ins_perm m s).length_eq
theorem foldl_len : ∀ (ys m : List ByteArray), (ys.foldl ins m).length = m.length + ys.length
  | [], _ => rfl
  | y :: ys, m => by rw [List.foldl_cons, foldl_len ys, ins_len, List.length_cons]; omega

set_option maxRecDepth 100000 in
set_option maxHeartbeats 4000000 in
theorem gpush {w : World} {S : Nat → Prop} {gg n cap : Nat} {m ys : List ByteArray} {a : Option Addr} (h : Hq S gg w m) (ha : ArgSs w a n cap ys) (hd : ys = [] ∨ ∀ x, a = some x → ¬ S x.block) (hb : m.length + n ≤ 8796093022208) :
    Calls Try.prog 9 #[.pointer (some ⟨gg, 0, none⟩), .slice a n cap] w fun e w' => e = .returned (.tuple #[]) ∧ Only S w w' ∧ Hq (Grow S w w') gg w' (ys.foldl ins m) := by
  have HA := Lib.hid ha; have HD := Lib.hid hd; have HB := Lib.hid hb; have HQ := Lib.hid h
  have nb : (n : Int) ≤ 8796093022208 := by omega
  clear h ha hd hb
  go_enter Try.func9, Try.ntmps9
  go_wp2_with fail
  go_loopw [10] (fun i wr => ∃ j : Nat, i = .int .i64 j ∧ j ≤ n ∧ Hid (Hp w S gg wr ((ys.take j).foldl ins m))) (fun i _ => n - (intOf i).toNat)
  case atStart => exact ⟨0, rfl, Nat.zero_le _, HQ.out.1⟩
  case round =>
    obtain ⟨j, rfl, hj, HR⟩ := hrel
    by_cases hjn : j < n
    · have j1 : (j : Int) < n := by omega
      have j2 : (j : Int) < cap := by have := HA.out.c; omega
      obtain ⟨b, off, y, rfl, hb, hy, hs, hat, c0⟩ := HA.out.get j hjn
      have nS : ¬ S b := by
        rcases HD.out with q | q
        · rw [q] at hy; cases hy
        · exact q _ rfl
      have c1 : wr.cell? ⟨b, off + j, none⟩ = some (.string y) := (World.cell?_of_block (HR.out.only0.block b hb nS)).trans c0
      have TK : Hid ((ys.take (j + 1)).foldl ins m = ins ((ys.take j).foldl ins m) y) := by show _ = _; rw [List.take_add_one, hy, List.foldl_append]; rfl
      have PU := Lib.hid (HR.out.push y (by rw [foldl_len, List.length_take]; have := HB.out; omega) hs)
      have JN := Lib.hid hjn
      clear hj hjn hb hy hs hat c0 nS
      go_wp2_with fail
      refine PU.out.mono ?_; rintro e w3 ⟨rfl, h3⟩
      have H3 : Hid (Hp w S gg w3 ((ys.take (j + 1)).foldl ins m)) := by show Hp _ _ _ _ _; rw [TK.out]; exact h3
      clear h3
      go_wp2_with fail
      go_round
      case rel => exact ⟨j + 1, by go_num, JN.out, H3⟩
      case measure => simp [intOf]; have := JN.out; omega
    · obtain rfl : j = n := by omega
      have HF : Hid (Hp w S gg wr (ys.foldl ins m)) := by
        have e := HR.out
        rw [List.take_of_length_le (by rw [HA.out.n]; exact Nat.le_refl _)] at e
        exact e
      clear hj hjn
      go_wp2_with fail
      refine bodyPost_end (results_none Try.results9 _ _ _) rfl ?_
      exact ⟨rfl, HF.out.only0, Hq.of HF.out HQ.out.2⟩
set_option maxRecDepth 100000 in
set_option maxHeartbeats 4000000 in
theorem gpush_nil (a : Option Addr) (n cap : Nat) (w : World) : Calls Try.prog 9 #[.pointer none, .slice a n cap] w fun e w' => e = .returned (.tuple #[]) ∧ w = w' := by
  go_enter Try.func9, Try.ntmps9
  go_wp2_with fail
  exact bodyPost_ret (results_none Try.results9 _ _ _) rfl ⟨rfl, rfl⟩
theorem hq_new {w : World} {gg : Nat} (h : ObjAt w gg 48 [.slice none 0 0]) : Hq (fun k => k = gg) gg w [] :=
  ⟨⟨⟨[], ⟨⟨none, 0, fun k => k = gg, h, ⟨rfl, .inl ⟨rfl, rfl⟩⟩, rfl, fun x hx => (by cases hx), fun k hk => .inl hk, fun k hk => (by rw [hk]; exact h.lt), .refl _ _⟩, fun _ h => (by cases h)⟩, fun c _ hc => (by cases hc), List.Perm.refl _⟩, List.Pairwise.nil⟩, fun k hk => (by rw [hk]; exact h.lt)⟩

set_option maxRecDepth 100000 in
set_option maxHeartbeats 4000000 in
theorem gnew {w : World} {n cap : Nat} {ys : List ByteArray} {a : Option Addr} (ha : ArgSs w a n cap ys) (hb : n ≤ 8796093022208) :
    Calls Try.prog 15 #[.slice a n cap] w fun e w' => ∃ S gg, e = .returned (.pointer (some ⟨gg, 0, none⟩)) ∧ Hq S gg w' (mrg [ys]) ∧ (∀ k, S k → w.heap.size ≤ k) ∧ Below w.heap.size w w' := by
  have HA := Lib.hid ha
  have HM : Hid (mrg [ys] = ys.foldl ins []) := by show _ = _; unfold mrg; rw [List.flatten_cons, List.flatten_nil, List.append_nil]
  have HB := Lib.hid hb
  clear ha hb
  go_enter Try.func15, Try.ntmps15
  go_wp2_with (refine wpList_box_obj rfl 48 _ rfl [.slice none 0 0] rfl ?_; intro w1 h1 b1; have H1 := Lib.hid h1; have B1 := Lib.hid b1; clear h1 b1)
  have dj : ys = [] ∨ ∀ x, a = some x → ¬ (fun k => k = w.heap.size) x.block := by
    rcases HA.out.r with q | ⟨b, off, rfl, q, _⟩
    · exact .inl q
    · exact .inr fun x hx c => by injection hx with hx; subst hx; have : b = w.heap.size := c; omega
  refine (gpush (hq_new H1.out) (HA.out.below B1.out) dj (by have := HB.out; simpa using this)).mono ?_; rintro e w2 ⟨rfl, o2, h2⟩
  have O2 := Lib.hid o2; have H2 := Lib.hid h2
  clear o2 h2 dj
  go_wp2_with fail
  go_ret
  exact ⟨Grow (fun k => k = w.heap.size) w1 w2, _, rfl, by rw [HM.out]; exact H2.out, fun k hk => Or.elim hk (fun q => Nat.le_of_eq q.symm) fun q => Nat.le_trans B1.out.size q.1, B1.out.trans (O2.out.below (fun k hk => Nat.le_of_eq hk.symm) B1.out.size)⟩
end Go.Proofs.Ytjokgiheabmolaa.Hep
