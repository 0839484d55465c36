/-
  Layer 8: the program's Check.
-/
import Derived.Test.YtokjmehecfjhmaaDoorPnmIter
import Derived.Test.YtokjmehecfjhmaaDoorPnmRefS
import Derived.Test.YtokjmehecfjhmaaDoorStrNum
import Derived.Test.YtokjmehecfjhmaaDoorShelf
namespace Go.Proofs.YtokjmehecfjhmaaDoor.Pnm
open Go.RowKit Go.Shelf
attribute [local go_sem] Oper.semAt_some

theorem comps_mem {z : Int} (hz : z ≠ 47) : ∀ zs : List Int, z ∈ zs ↔ ∃ c ∈ comps zs, z ∈ c
  | [] => by simp [comps]
  | y :: zs => by
    have ih := comps_mem hz zs
    unfold comps
    by_cases h : y = 47
    · rw [if_pos h, List.mem_cons, ih]
      constructor
      · rintro (e | ⟨c, hc, h1⟩)
        · exact absurd (e.trans h) hz
        · exact ⟨c, List.mem_cons_of_mem _ hc, h1⟩
      · rintro ⟨c, hc, h1⟩
        rcases List.mem_cons.1 hc with rfl | hc
        · cases h1
        · exact .inr ⟨c, hc, h1⟩
    · rw [if_neg h]
      cases hc : comps zs with
      | nil => exact absurd hc (comps_ne zs)
      | cons c cs =>
        rw [hc] at ih
        simp only [List.mem_cons, exists_eq_or_imp] at ih ⊢
        rw [ih, or_assoc]
def badS (x : ByteArray) : Prop := x = { data := #[] } ∨ x = { data := #[46] } ∨ x = { data := #[46, 46] }
instance (x : ByteArray) : Decidable (badS x) := by unfold badS; infer_instance
theorem bad_part (x : ByteArray) : badS x ↔ (numsOf x = [] ∨ numsOf x = [46] ∨ numsOf x = [46, 46]) := by
  unfold badS
  constructor
  · rintro (rfl | rfl | rfl)
    · exact .inl rfl
    · exact .inr (.inl rfl)
    · exact .inr (.inr rfl)
  · rintro (h | h | h)
    · exact .inl (nums_inj (h.trans rfl))
    · exact .inr (.inl (nums_inj (h.trans rfl)))
    · exact .inr (.inr (nums_inj (h.trans rfl)))
theorem comps_sub {zs : List Int} {c : List Int} (hc : c ∈ comps zs) {z : Int} (hz : z ∈ c) : z ∈ zs :=
  (comps_mem (fun e => comps_noslash zs c hc (e ▸ hz)) zs).2 ⟨c, hc, hz⟩
theorem comp_nums {s : ByteArray} {c : List Int} (hc : c ∈ comps (numsOf s)) : numsOf (strOfNums c) = c :=
  numsOf_strOfNums fun z hz => by
    have := comps_sub hc hz
    rw [numsOf_eq, List.mem_map] at this
    obtain ⟨b, _, rfl⟩ := this
    have := b.toNat_lt
    omega
theorem path_parts (s : ByteArray) : pathOk (numsOf s) ↔ (0 : Int) ∉ numsOf s ∧ ∀ x ∈ compsB s, ¬ badS x := by
  constructor
  · intro h
    refine ⟨fun h0 => ?_, fun x hx => ?_⟩
    · obtain ⟨c, hc, hz⟩ := (comps_mem (by decide) _).1 h0
      exact (h c hc).2.2.2 hz
    · obtain ⟨c, hc, rfl⟩ := List.mem_map.1 hx
      rw [bad_part, comp_nums hc]
      obtain ⟨h1, h2, h3, _⟩ := h c hc
      rintro (e | e | e)
      · exact h1 e
      · exact h2 e
      · exact h3 e
  · rintro ⟨h0, h⟩ c hc
    have hb := h _ (List.mem_map.2 ⟨c, hc, rfl⟩)
    rw [bad_part, comp_nums hc] at hb
    exact ⟨fun e => hb (.inl e), fun e => hb (.inr (.inl e)), fun e => hb (.inr (.inr e)), fun hz => h0 (comps_sub hc hz)⟩
theorem idx_zero (s : ByteArray) (k : Int) (hk : Lib.indexByte s.data.toList 0 = k) : (0 ≤ k ↔ (0 : Int) ∈ numsOf s) := by
  rw [← hk]; exact idx_byte s 0

theorem res14 (tmps : Array Value) (W : World) (g : Nat) (z : Int) (hp : tmps.getD 2 undef = .pointer (some ⟨g, 0, none⟩)) (hc : W.cell? ⟨g, 0, none⟩ = some (.int .i64 z)) :
    (results Tryd.f21 tmps).run Tryd.prog W = .ok (.int .i64 z) W := by
  have hp' : tmps[2]?.getD undef = .pointer (some ⟨g, 0, none⟩) := by simpa using hp
  simp [results, Tryd.f21, hp', go_sem, hc]

set_option maxHeartbeats 2000000 in
theorem pcheck_long (s : ByteArray) (w : World) (h1 : (65536 : Int) < s.size) : Calls Tryd.prog 21 #[.string s] w fun e w' => e = .returned (.int .i64 7) ∧ Below w.heap.size w w' := by
  go_enter Tryd.func21, Tryd.ntmps21
  go_wp2
  exact bodyPost_ret (res14 _ _ w.heap.size 7 rfl (Boxed.new w 29 _).cell) rfl ⟨rfl, (Below.refl _ w).alloc (Nat.le_refl _) _⟩

set_option maxHeartbeats 2000000 in
theorem pcheck_zero (s : ByteArray) (w : World) (h1 : (s.size : Int) ≤ 65536) (hz : (0 : Int) ∈ numsOf s) : Calls Tryd.prog 21 #[.string s] w fun e w' => e = .returned (.int .i64 6) ∧ Below w.heap.size w w' := by
  obtain ⟨k, hk⟩ := named (Lib.indexByte s.data.toList 0)
  have hk0 := (idx_zero s k hk.out.symm).2 hz
  go_enter Tryd.func21, Tryd.ntmps21
  go_wp2_with fail
  refine (Tryd.strings_IndexByte s 0 _).mono ?_; rintro e w1 ⟨rfl, rfl⟩
  rw [show (0 : Int).toNat.toUInt8 = 0 from rfl, ← hk.out]
  go_wp2
  exact bodyPost_ret (res14 _ _ w.heap.size 6 rfl (Boxed.new w 29 _).cell) rfl ⟨rfl, (Below.refl _ w).alloc (Nat.le_refl _) _⟩

theorem eq_tests (x : ByteArray) : (badS x → x.toList.isEmpty = true ∨ (x.toList.isEmpty = false ∧ (x.toList == [46]) = true) ∨ (x.toList.isEmpty = false ∧ (x.toList == [46]) = false ∧ (x.toList == [46, 46]) = true)) ∧
    (¬ badS x → x.toList.isEmpty = false ∧ (x.toList == [46]) = false ∧ (x.toList == [46, 46]) = false) := by
  have e1 : ({ data := #[] } : ByteArray).toList = [] := by rw [ByteArray.toList_eq]
  have e2 : ({ data := #[46] } : ByteArray).toList = [46] := by rw [ByteArray.toList_eq]
  have e3 : ({ data := #[46, 46] } : ByteArray).toList = [46, 46] := by rw [ByteArray.toList_eq]
  constructor
  · rintro (rfl | rfl | rfl)
    · rw [e1]; decide
    · rw [e2]; decide
    · rw [e3]; decide
  · intro h
    refine ⟨empty_no fun e => h (.inl e), ?_, ?_⟩
    · rw [← e2]; exact bytes_neq fun e => h (.inr (.inl e))
    · rw [← e3]; exact bytes_neq fun e => h (.inr (.inr e))

set_option maxRecDepth 100000 in
set_option maxHeartbeats 4000000 in
theorem pcheck_in (s : ByteArray) (w : World) (h1 : (s.size : Int) ≤ 65536) (hz : ¬ (0 : Int) ∈ numsOf s) (R : Int) (hR0 : Hid ((∀ x ∈ compsB s, ¬ badS x) → R = 0)) (hR6 : Hid ((∃ x ∈ compsB s, badS x) → R = 6)) :
    CallsIn Fence.wide 4 Tryd.prog 21 #[.string s] w fun e w' => e = .returned (.int .i64 R) ∧ Below w.heap.size w w' := by
  obtain ⟨k, hk⟩ := named (Lib.indexByte s.data.toList 0)
  have hk0 : k < 0 := by
    rcases Int.lt_or_le k 0 with h | h
    · exact h
    · exact absurd ((idx_zero s k hk.out.symm).1 h) hz
  have hsz : s.size ≤ maxLen := by unfold maxLen; omega
  clear hz
  refine callsIn_of_wp_marks Tryd.func21 rfl trivial ?_ rfl
  simp only [Tryd.ntmps21, List.size_toArray, List.length_cons, List.length_nil, Nat.reduceAdd, Nat.reduceSub, Array.replicate_succ, Array.replicate_zero, List.push_toArray, List.append_toArray, List.nil_append, List.cons_append]
  gi_wp2_with (first | (refine ⟨trivial, ?_⟩; gi_at_call 38; refine (callsIn_wide.2 (Tryd.strings_IndexByte s 0 _)).mono ?_; rintro e w1 ⟨rfl, rfl⟩; rw [show (0 : Int).toNat.toUInt8 = 0 from rfl, ← hk.out]) | (refine ⟨trivial, ?_⟩; gi_at_call 39; refine (comp_in Fence.wide 3 trivial rfl s _).mono ?_; rintro e w1 ⟨rfl, rfl⟩))
  have bR := Boxed.new w 29 (.int .i64 0)
  have bN := Boxed.new (w.alloc (.cells #[.int .i64 0] 29)) 9 (.string s)
  rw [World.size_alloc] at bN
  have hB0 : Below w.heap.size w ((w.alloc (.cells #[.int .i64 0] 29)).alloc (.cells #[.string s] 9)) := ((Below.refl _ w).alloc (Nat.le_refl _) _).alloc (by simp) _
  refine wpIn_rangeFunc_ownG rfl (by decide) (gf := 53) (lb := #[.pointer (some ⟨w.heap.size + 1, 0, none⟩)]) rfl trivial (enters_of Tryd.func53 (by kernel_rfl) rfl)
    (comp_stops Fence.wide 3 trivial rfl (by decide) (w.heap.size + 1) (w.heap.size + 2) s hsz (by omega) _ (by simp) bN.cell) belowK_t (belowK_b (by simp)) (Below.refl _ _) (fun _ => rfl)
    (fun pre W => ((∀ x ∈ pre, ¬ badS x) ∧ W.cell? ⟨w.heap.size, 0, none⟩ = some (.int .i64 0) ∧ W.frozen? ⟨w.heap.size, 0, none⟩ = false) ∧ Below w.heap.size w W)
    (fun c pre W => (c = .ret ∧ (∃ x ∈ pre, badS x) ∧ W.cell? ⟨w.heap.size, 0, none⟩ = some (.int .i64 6)) ∧ Below w.heap.size w W)
    (OwnFrom.and (Own.from (fun s A B row hs hg hr => ⟨hs.1, cell_kept hs.2.1 hg hr, (frozen_kept hs.2.1 hg hr).trans hs.2.2⟩) _) (ownFrom_below (Nat.le_refl _) (by simp; omega)))
    (fun c => OwnFrom.and (Own.from (fun s A B row hs hg hr => ⟨hs.1, hs.2.1, cell_kept hs.2.2 hg hr⟩) _) (ownFrom_below (Nat.le_refl _) (by simp; omega)))
    ⟨⟨by simp, (bR.alloc _).cell, (bR.alloc _).frozen⟩, hB0⟩
    (fun x => { tmps := #[.string s, undef, .pointer (some ⟨w.heap.size, 0, none⟩), .string x, .bool (decide ((65536 : Int) < s.size)), .string s, .int .i64 s.size, .bool (decide ((65536 : Int) < s.size)), .bool (decide (0 ≤ k)), .string s, .int .i64 k, .bool (decide (0 ≤ k)), .string s, .func (.func 53) #[] #[.pointer (some ⟨w.heap.size + 1, 0, none⟩)], .string x, undef, undef, undef, undef, undef, undef, undef, undef, undef, undef], defers := [] }) ?assign ?body ?done ?stop
  case assign =>
    intro l x W K hK
    gi_wp2
    exact hK
  case body =>
    rintro l pre x W ⟨⟨hp, hc, hf⟩, hB⟩ _
    have HP := Lib.hid hp
    have HB := Lib.hid hB
    clear hp hB
    by_cases hb : badS x
    · have HX : Hid (∃ y ∈ pre ++ [x], badS y) := ⟨x, by simp, hb⟩
      rcases (eq_tests x).1 hb with m1 | ⟨m1, m2⟩ | ⟨m1, m2, m3⟩
      all_goals
        clear hb
        gi_wp2
        exact ⟨(KeepsOthers.setCell _ _ _).from _, ⟨rfl, HX.out, World.cell?_setCell_same' _ _ _ (by rw [hc]; rfl)⟩, HB.out.setCell (p := ⟨w.heap.size, 0, none⟩) (Nat.le_refl _) _⟩
    · obtain ⟨m1, m2, m3⟩ := (eq_tests x).2 hb
      have HX : Hid (∀ y ∈ pre ++ [x], ¬ badS y) := fun y hy => by
        rcases List.mem_append.1 hy with h | h
        · exact HP.out y h
        · rw [List.mem_singleton.1 h]; exact hb
      clear hb
      gi_wp2
      exact ⟨(KeepsOthers.refl _).from _, Below.refl _ _, ⟨HX.out, hc, hf⟩, HB.out⟩
  case done =>
    rintro D ys W hD rfl ⟨⟨hne, hc, hf⟩, hB⟩ hK
    have e := Lib.hid (hR0.out hne)
    clear hne
    gi_wp2
    have hK' := (KeepsOthers.setCell W ⟨w.heap.size, 0, none⟩ (.int .i64 0)).same D _ hK rfl
    refine ⟨by simp, .inl ⟨_, _, rfl, run_takeDeferred hK', ?_⟩⟩
    have hc5 := cell_kept (World.cell?_setCell_same' W ⟨w.heap.size, 0, none⟩ (.int .i64 0) (by rw [hc]; rfl)) (grownBy_putObj' _ D (.deferred none)) (fun r e => by cases e; exact ⟨_, hK', rfl⟩)
    exact ⟨_, res14 _ _ w.heap.size 0 rfl hc5, by rw [e.out], (hB.setCell (p := ⟨w.heap.size, 0, none⟩) (Nat.le_refl _) _).trans (belowK_b (w := w) (Nat.le_refl _) _ D _ _ (by simp at hD; omega) hK' rfl rfl)⟩
  case stop =>
    rintro D c pre W hD hpre ⟨⟨rfl, ⟨x, hx, hin⟩, hcr⟩, hB⟩ hK
    have e := Lib.hid (hR6.out ⟨x, hpre.subset hx, hin⟩)
    gi_wp2
    refine ⟨by simp, .inl ⟨_, _, rfl, run_takeDeferred hK, ?_⟩⟩
    have hc5 := cell_kept hcr (grownBy_putObj' _ D (.deferred none)) (fun r e => by cases e; exact ⟨_, hK, rfl⟩)
    exact ⟨_, res14 _ _ w.heap.size 6 rfl hc5, by rw [e.out], hB.trans (belowK_b (w := w) (Nat.le_refl _) W D _ _ (by simp at hD; omega) hK rfl rfl)⟩

theorem pcheck (s : ByteArray) (w : World) (_ : s.size ≤ maxLen) : Calls Tryd.prog 21 #[.string s] w fun e w' => e = .returned (.int .i64 (chE (numsOf s))) ∧ Below w.heap.size w w' := by
  unfold chE
  rw [numsOf_length]
  by_cases h1 : 65536 < s.size
  · rw [if_pos h1]; exact pcheck_long s w (by omega)
  · rw [if_neg h1]
    by_cases hz : (0 : Int) ∈ numsOf s
    · rw [if_neg (fun h => ((path_parts s).1 h).1 hz)]
      exact pcheck_zero s w (by omega) hz
    · refine callsIn_wide.1 (pcheck_in s w (by omega) hz _ ?_ ?_)
      · exact Lib.hid fun h => if_pos ((path_parts s).2 ⟨hz, h⟩)
      · exact Lib.hid fun ⟨x, hx, hb⟩ => if_neg fun h => ((path_parts s).1 h).2 x hx hb
end Go.Proofs.YtokjmehecfjhmaaDoor.Pnm
