/-
  Layer 19: the program's Chown, Lstat, ReadFile.
-/
import Derived.Test.YthcbiohmghaobaaDoorPz08
import Derived.Test.YthcbiohmghaobaaDoorPz02
import Derived.Test.YthcbiohmghaobaaDoorPz04
import Derived.Deep.RegionHeld3
import Derived.Test.YthcbiohmghaobaaDoorPz09
import Derived.Test.YthcbiohmghaobaaDoorPz05
namespace Go.Proofs.YthcbiohmghaobaaDoor.Vfs
open Go.RowKit Go.MapKept Go.Proofs.YthcbiohmghaobaaDoor.Pnm Flt

/-- what Lstat answers -/
noncomputable def stV (s : St) (p : ByteArray) : List Value := match fnd s.ps p with
  | none => infL 0 0 0 0 0 ⟨#[]⟩ 0 0
  | some i => infL (s.at i).k (s.at i).m (s.at i).num (s.at i).l (s.at i).d.length (s.at i).t (s.at i).u (s.at i).mt
/-- what ReadFile answers -/
noncomputable def rdE (s : St) (p : ByteArray) : Int := match fnd s.ps p with
  | none => 19
  | some i => if (s.at i).k = 1 then 0 else 8
noncomputable def rdD (s : St) (p : ByteArray) : List Int := match fnd s.ps p with
  | none => []
  | some i => if (s.at i).k = 1 then (s.at i).d else []
section
variable {N : Nat} {F S : Int} {R : List Int} {T : Nat → Prop} {w : World} {f : Nat} {s : St}
set_option maxRecDepth 100000 in
theorem lstat_any (h : FsS N F S R T w f s) (p : ByteArray) :
    Calls Tryd.prog 20 #[.pointer (some ⟨f, 0, none⟩), .string p] w fun e w' => e = .returned (.tuple #[.agg (stV s p).toArray, .int .i64 (chE' s p)]) ∧ Below w.heap.size w w' := by
  obtain ⟨W, D, mp, nm, ra, rc, M, hF, hT, hL⟩ := h
  have HF := Lib.hid hF
  have OIT : Hid (ObjT Tryd.prog 52 8) := ⟨⟨_, Tryd.underlying52⟩, by kernel_rfl⟩
  have ZI : Hid ((Tryd.prog.info? 52).map (·.zero) = some (some (.agg (infL 0 0 0 0 0 ⟨#[]⟩ 0 0).toArray))) := by show _ = _; kernel_rfl
  cases hf : fnd s.ps p with
  | none =>
    have FI := Lib.hid fun w' (hb : Below w.heap.size w w') => find_none (HF.out.below hb) hf
    have e1 : stV s p = infL 0 0 0 0 0 ⟨#[]⟩ 0 0 := by unfold stV; rw [hf]
    have e2 : chE' s p = 19 := by unfold chE'; rw [hf]
    rw [e1, e2]
    clear e1 e2 hf hF hT hL
    go_enter Tryd.func20, Tryd.ntmps20
    go_wp2_with (first | (refine wpList_alloc_obj rfl 52 rfl _ ZI.out ?_; intro w1 h1 b1; have I1 := Lib.hid h1; have B1 := Lib.hid b1; clear h1 b1))
    refine (FI.out w1 B1.out).mono ?_; rintro e w2 ⟨rfl, rfl⟩
    go_wp2_with (first | (refine wpList_store_obj rfl 52 _ _ rfl w.heap.size rfl (infL 0 0 0 0 0 ⟨#[]⟩ 0 0) (infL 0 0 0 0 0 ⟨#[]⟩ 0 0) rfl 52 I1.out OIT.out.2 rfl (by simp [Value.oneCell']) ?_; intro w3 g3 t3; have I3 := Lib.hid g3; have B3 := Lib.hid (B1.out.trans (t3.below (Nat.le_refl _))); clear g3 t3))
    refine bodyPost_ret (results_obj_tmp Tryd.results20 OIT.out _ w.heap.size rfl _ (infL 0 0 0 0 0 ⟨#[]⟩ 0 0) I3.out rfl) rfl ?_
    exact ⟨rfl, B3.out⟩
  | some i =>
    obtain ⟨y, hy, _, hI⟩ := HF.out.get hf
    have FI := Lib.hid fun w' (hb : Below w.heap.size w w') => find_some (HF.out.below hb) hf hy
    have e1 : stV s p = infL (s.at i).k (s.at i).m (s.at i).num (s.at i).l (s.at i).d.length (s.at i).t (s.at i).u (s.at i).mt := by unfold stV; rw [hf]
    have e2 : chE' s p = 0 := by unfold chE'; rw [hf]
    rw [e1, e2]
    have IO := Lib.hid hI.o
    obtain ⟨k, hk⟩ := named (s.at i).k; obtain ⟨m, hm⟩ := named (s.at i).m; obtain ⟨num, hnum⟩ := named (s.at i).num; obtain ⟨l, hl⟩ := named (s.at i).l
    obtain ⟨sz, hsz⟩ := named ((s.at i).d.length : Int); obtain ⟨t, ht⟩ := named (s.at i).t; obtain ⟨u, hu⟩ := named (s.at i).u; obtain ⟨mt, hmt⟩ := named (s.at i).mt
    rw [← hk.out, ← hm.out, ← hnum.out, ← hl.out, ← hsz.out, ← ht.out, ← hu.out, ← hmt.out]
    have LD : Hid (∀ w', Below w.heap.size w w' → ∀ j v, (infL k m num l sz t u mt)[j]? = some v → w'.cell? ⟨y.g, 0 + j, none⟩ = some v) := fun w' hb j v hj => by
      rw [Nat.zero_add]
      refine (IO.out.below hb IO.out.lt).get j ?_
      rw [hk.out, hm.out, hnum.out, hl.out, hsz.out, ht.out, hu.out, hmt.out] at hj
      rw [List.getElem?_append_left (List.getElem?_eq_some_iff.1 hj).1]
      exact hj
    clear e1 e2 hf hF hT hL hy hI hk hm hnum hl hsz ht hu hmt
    go_enter Tryd.func20, Tryd.ntmps20
    go_wp2_with (first | (refine wpList_alloc_obj rfl 52 rfl _ ZI.out ?_; intro w1 h1 b1; have I1 := Lib.hid h1; have B1 := Lib.hid b1; clear h1 b1))
    refine (FI.out w1 B1.out).mono ?_; rintro e w2 ⟨rfl, rfl⟩
    go_wp2_with (first | (refine wpList_load_part rfl 52 8 OIT.out _ rfl y.g 0 rfl (infL k m num l sz t u mt) rfl (LD.out w1 B1.out) ?_) | (refine wpList_store_obj rfl 52 _ _ rfl w.heap.size rfl (infL k m num l sz t u mt) (infL 0 0 0 0 0 ⟨#[]⟩ 0 0) rfl 52 I1.out OIT.out.2 rfl (by simp [Value.oneCell']) ?_; intro w3 g3 t3; have I3 := Lib.hid g3; have B3 := Lib.hid (B1.out.trans (t3.below (Nat.le_refl _))); clear g3 t3))
    refine bodyPost_ret (results_obj_tmp Tryd.results20 OIT.out _ w.heap.size rfl _ (infL k m num l sz t u mt) I3.out rfl) rfl ?_
    exact ⟨rfl, B3.out⟩
set_option maxRecDepth 100000 in
theorem read_any (h : FsS N F S R T w f s) (p : ByteArray) :
    Calls Tryd.prog 21 #[.pointer (some ⟨f, 0, none⟩), .string p] w fun e w' => ∃ v, e = .returned (.tuple #[v, .int .i64 (rdE s p)]) ∧ w'.ownsRow w.heap.size 5 1 v (rdD s p).length ((rdD s p).map (.int .u8)) ∧ Below w.heap.size w w' := by
  obtain ⟨W, D, mp, nm, ra, rc, M, hF, hT, hL⟩ := h
  have HF := Lib.hid hF
  have NO : Hid (∀ w' : World, w'.ownsRow w.heap.size 5 1 (.slice none 0 0) ([] : List Int).length (([] : List Int).map (.int .u8))) := fun _ => ⟨rfl, .inl ⟨rfl, rfl⟩⟩
  cases hf : fnd s.ps p with
  | none =>
    have FI := Lib.hid (kind_none HF.out hf 1)
    have e1 : rdE s p = 19 := by unfold rdE; rw [hf]
    have e2 : rdD s p = [] := by unfold rdD; rw [hf]
    rw [e1, e2]
    clear e1 e2 hf hF hT hL
    go_enter Tryd.func21, Tryd.ntmps21
    go_wp2_with fail
    refine FI.out.mono ?_; rintro e w2 ⟨rfl, rfl⟩
    go_wp2_with fail
    go_ret2
    exact ⟨_, rfl, NO.out _, Below.refl _ _⟩
  | some i =>
    obtain ⟨y, hy, _, hI⟩ := HF.out.get hf
    have hkind := kind_some HF.out hf hy 1
    by_cases hk : (s.at i).k = 1
    · rw [if_pos hk] at hkind
      have FI := Lib.hid hkind
      have e1 : rdE s p = 0 := by unfold rdE; rw [hf]; exact if_pos hk
      have e2 : rdD s p = (s.at i).d := by unfold rdD; rw [hf]; exact if_pos hk
      rw [e1, e2]
      have c8 := hI.o.get 8 rfl
      have hz := (HF.out.wf.z (s.at i) (at_mem (HF.out.wf.lt hf))).1
      have BC := Lib.hid (bclone y.da (s.at i).d.length y.dc (s.at i).d w hI.d.inK rfl hz)
      obtain ⟨d, hd⟩ := named (s.at i).d; obtain ⟨n, hn⟩ := named d.length
      rw [← hd.out] at BC c8 ⊢
      rw [← hn.out] at BC c8 ⊢
      clear e1 e2 hf hF hT hL hkind hy hI hz hd hn hk
      go_enter Tryd.func21, Tryd.ntmps21
      go_wp2_with fail
      refine FI.out.mono ?_; rintro e w2 ⟨rfl, rfl⟩
      go_wp2_with fail
      refine BC.out.mono ?_; rintro e w3 ⟨v3, rfl, o3, b3⟩
      have O3 := Lib.hid o3; have B3 := Lib.hid b3
      clear o3 b3
      go_wp2_with fail
      go_ret2
      exact ⟨_, rfl, O3.out, B3.out⟩
    · rw [if_neg hk] at hkind
      have FI := Lib.hid hkind
      have e1 : rdE s p = 8 := by unfold rdE; rw [hf]; exact if_neg hk
      have e2 : rdD s p = [] := by unfold rdD; rw [hf]; exact if_neg hk
      rw [e1, e2]
      clear e1 e2 hf hF hT hL hkind hy hI hk
      go_enter Tryd.func21, Tryd.ntmps21
      go_wp2_with fail
      refine FI.out.mono ?_; rintro e w2 ⟨rfl, rfl⟩
      go_wp2_with fail
      go_ret2
      exact ⟨_, rfl, NO.out _, Below.refl _ _⟩
set_option maxRecDepth 100000 in
theorem chown_any (h : FsS N F S R T w f s) (p : ByteArray) (u mt : Int) :
    Calls Tryd.prog 27 #[.pointer (some ⟨f, 0, none⟩), .string p, .int .i64 u, .int .i64 mt] w fun e w' => e = .returned (.int .i64 (chE' s p)) ∧ Only T w w' ∧ FsS N F S R (Grow T w w') w' f (chS s p u mt) := by
  have HH := Lib.hid h
  obtain ⟨W, D, mp, nm, ra, rc, M, hF, hT, hL⟩ := h
  have HF := Lib.hid hF; have HT := Lib.hid hT; have HL := Lib.hid hL
  cases hf : fnd s.ps p with
  | none =>
    have FI := Lib.hid (find_none HF.out hf)
    have e1 : chE' s p = 19 := by unfold chE'; rw [hf]
    have QQ := Lib.hid (show Only T w w ∧ FsS N F S R (Grow T w w) w f (chS s p u mt) by rw [chS_bad hf]; exact HH.out.stay (Below.refl _ _))
    rw [e1]
    clear e1 hf hF hT hL
    go_enter Tryd.func27, Tryd.ntmps27
    go_wp2_with fail
    refine FI.out.mono ?_; rintro e w2 ⟨rfl, rfl⟩
    go_wp2_with fail
    go_ret
    exact ⟨rfl, QQ.out⟩
  | some i =>
    obtain ⟨y, hy, _, hI⟩ := HF.out.get hf
    have FI := Lib.hid (find_some HF.out hf hy)
    have e1 : chE' s p = 0 := by unfold chE'; rw [hf]
    have SI : Hid ((Tryd.prog.info? 3).map (·.size) = some 1) := by show _ = _; kernel_rfl
    have SJ : Hid ((Tryd.prog.info? 2).map (·.size) = some 1) := by show _ = _; kernel_rfl
    have hi := HF.out.wf.lt hf
    obtain ⟨x, hx⟩ := named (s.at i)
    have IO : Hid (ObjAt w y.g 80 (inoV x y)) := by rw [hx.out]; exact hI.o
    have FIN : Hid (∀ w1 w2, TurnB w w1 y.g → TurnB w1 w2 y.g → ObjAt w2 y.g 80 (inoV { x with u := u, mt := mt } y) → Only T w w2 ∧ FsS N F S R (Grow T w w2) w2 f (chS s p u mt)) := fun w1 w2 t1 t2 g2 => by
      have t12 : TurnB w w2 y.g := ⟨fun hB => (t1.below hB).trans (t2.below hB), fun hk => (t2.other hk).trans (t1.other hk), t2.size.trans t1.size⟩
      rw [hx.out] at g2
      have f2 := HF.out.cel hy t12 g2 rfl rfl (HF.out.wf.set (HF.out.wf.ns (s.at i) (at_mem hi)) (HF.out.wf.l (s.at i) (at_mem hi)) (HF.out.wf.z (s.at i) (at_mem hi)))
      rw [chS_of hf]
      have o : Only T w w2 := only_turn (Only.refl T w) t12 (.inl (HT.out _ (.inl hI.wg)))
      exact ⟨o, W, D, mp, nm, ra, rc, M, f2, fun k hk => .inl (HT.out k hk), grow_lt HL.out o.size⟩
    obtain ⟨OkQ, hOkQ⟩ : ∃ Q : World → Prop, Q = fun w' => Only T w w' ∧ FsS N F S R (Grow T w w') w' f (chS s p u mt) := ⟨_, rfl⟩
    rw [e1]
    suffices hG : Calls Tryd.prog 27 #[.pointer (some ⟨f, 0, none⟩), .string p, .int .i64 u, .int .i64 mt] w fun e w' => e = .returned (.int .i64 0) ∧ OkQ w' from hG.mono fun e w' ⟨q1, q2⟩ => by rw [hOkQ] at q2; exact ⟨q1, q2⟩
    have HOK := Lib.hid hOkQ
    obtain ⟨g, hg⟩ := named y.g
    rw [← hg.out] at FI IO FIN
    clear e1 hf hF hT hL hy hI hi hOkQ hx hg
    go_enter Tryd.func27, Tryd.ntmps27
    go_wp2_with fail
    refine FI.out.mono ?_; rintro e w2 ⟨rfl, rfl⟩
    go_wp2_with (first | (refine wpList_store_cell rfl 3 _ _ rfl g 6 rfl (.int .i64 u) rfl rfl SI.out 80 _ IO.out (by show 6 < 10; omega) ?_; intro w3 g3 t3; have I3 : Hid (ObjAt w3 g 80 (inoV { x with u := u } y)) := g3; have T3 := Lib.hid t3; clear g3 t3) | (refine wpList_store_cell rfl 2 _ _ rfl g 7 rfl (.int .i64 mt) rfl rfl SJ.out 80 _ I3.out (by show 7 < 10; omega) ?_; intro w4 g4 t4; have I4 : Hid (ObjAt w4 g 80 (inoV { x with u := u, mt := mt } y)) := g4; have T4 := Lib.hid t4; clear g4 t4))
    go_ret
    exact ⟨rfl, by rw [HOK.out]; exact FIN.out w3 w4 T3.out T4.out I4.out⟩
end
end Go.Proofs.YthcbiohmghaobaaDoor.Vfs
/-
  slices.Clone at []int.
-/
namespace Go.Proofs.YthcbiohmghaobaaDoor
open Go.RowKit

set_option maxRecDepth 100000 in
set_option maxHeartbeats 1000000 in
theorem iclone (a : Option Addr) (n cap : Nat) (zs : List Int) (w : World) (hb : InK .i64 w a zs) (hl : zs.length = n) (hn : n ≤ 17592186044416) :
    Calls Tryd.prog 38 #[.slice a n cap] w fun e w' => ∃ v, e = .returned v ∧ w'.ownsRow w.heap.size 3 1 v n (zs.map (.int .i64)) ∧ Below w.heap.size w w' := by
  have HB := Lib.hid hb; clear hb
  have HL := Lib.hid hl; clear hl
  have HN := Lib.hid hn; clear hn
  have HE := Lib.hid i64T
  have he : (Tryd.prog.info? 3).map (·.size) = some 1 := by obtain ⟨i, h1, _, h2, _⟩ := i64T; simp [h1, h2]
  have HE1 := Lib.hid he; clear he
  have he : ∀ w : World, (binOp .eql 28 (.slice none n cap) (.slice none 0 0)).run Tryd.prog w = .ok (.bool true) w := fun _ => rfl
  have he' : ∀ (x : Addr) (w : World), (binOp .eql 28 (.slice (some x) n cap) (.slice none 0 0)).run Tryd.prog w = .ok (.bool false) w := fun _ _ => rfl
  cases a with
  | none =>
    have h0 : zs = [] := by
      rcases HB.out with h | ⟨_, _, h, _⟩
      · exact h
      · cases h
    subst h0
    obtain rfl : n = 0 := HL.out.symm
    go_enter Tryd.func38, Tryd.ntmps38
    go_wp2
    go_ret
    exact ⟨_, rfl, ⟨rfl, .inl ⟨rfl, rfl⟩⟩, Below.refl _ _⟩
  | some x =>
    go_enter Tryd.func38, Tryd.ntmps38
    go_wp2_with (first | (refine wpList_lit_k rfl 28 3 .i64 rfl Tryd.underlying28 HE1.out ?_; intro w1 h1 b1; have O1 := Lib.hid h1; have B1 := Lib.hid b1; clear h1 b1) | (at_builtin; refine wpList_append_k rfl _ _ 28 rfl w.heap.size 3 .i64 8 Tryd.underlying28 HE.out (.slice (some ⟨w.heap.size, 0, none⟩) 0 0) 0 [] rfl O1.out (some x) n cap zs rfl (HB.out.below B1.out) HL.out (by have := HN.out; unfold maxLen; omega) (by have := HN.out; omega) B1.out.size ?_; intro v2 w2 h2 b2; rw [Nat.zero_add, List.nil_append] at h2; have O2 := Lib.hid h2; have B2 := Lib.hid b2; clear h2 b2))
    go_ret
    exact ⟨_, rfl, O2.out, B1.out.trans B2.out⟩
end Go.Proofs.YthcbiohmghaobaaDoor
/-
  A map written in a drawn region. Nothing of the program.
-/
namespace Go.Proofs.YthcbiohmghaobaaDoor
open Go.RowKit Go.MapKept
section
variable {P : Program} {w : World}
theorem run_updateF (T : TypeId) (kt et : TypeId) (hT : P.underlying T = some (.map kt et)) (d : TypeDesc) (hk : P.underlying kt = some d)
    (g : Nat) (kv : Value) (hkey : IsKey d kv) (v : Value) (n : Nat) (F : Value → Option Value) (hg : MapF w g d n F) :
    ∃ w', (Instr.mapUpdate T (.map (some g)) kv v).run P w = .ok () w' ∧ MapF w' g d (if F kv = none then n + 1 else n) (upd F kv v) ∧ TurnB w w' g := by
  obtain ⟨xs, clk, h1, h2, h3, h4⟩ := hg
  have hlt : g < w.heap.size := (Array.getElem?_eq_some_iff.1 h1).1
  have turn : ∀ (xs' : Array MapEntry) (c' : Nat), TurnB w { w with heap := w.heap.setIfInBounds g (.map xs' c') } g := fun xs' c' => ⟨fun hB => ⟨rfl, rfl, rfl, by simp, fun i hi => by
      show (w.heap.setIfInBounds g _)[i]? = w.heap[i]?
      rw [Array.getElem?_setIfInBounds_ne (by omega)]⟩, fun {k} hkg => by
      show (w.heap.setIfInBounds g _)[k]? = w.heap[k]?
      rw [Array.getElem?_setIfInBounds_ne (by omega)], by simp⟩
  rcases find_lk hkey xs.toList 0 h2 with ⟨f1, f2⟩ | ⟨l1, e, l2, f1, f2, f3, f4, f5⟩
  · have hF : F kv = none := by rw [← h4]; exact f2
    have hrun : (Instr.mapUpdate T (.map (some g)) kv v).run P w = .ok () { w with heap := w.heap.setIfInBounds g (.map (xs.push { key := kv, val := v, born := clk }) (clk + 1)) } := by
      simp [Instr.mapUpdate, run_underlying hT, Go.MapKept.run_getObj_map h1, run_checkKey (w := w) hk hkey, run_findKey (w := w) hk f1, Go.MapKept.run_setObj_map _ h1, Result.andThen]
    refine ⟨_, hrun, ⟨xs.push { key := kv, val := v, born := clk }, clk + 1, by simp [hlt], ?_, ?_, ?_⟩, turn _ _⟩
    · intro x hx
      simp only [Array.toList_push, List.mem_append, List.mem_singleton] at hx
      rcases hx with hx | rfl
      · exact h2 x hx
      · exact hkey
    · rw [if_pos hF, Array.size_push, h3]
    · intro k'
      rw [Array.toList_push]
      by_cases c : k' = kv
      · subst c
        rw [upd_same, lk_append _ _ (lk_none f2), lk, if_pos rfl]
      · rw [upd_ne c, lk_more (fun h => c h.symm), h4]
  · have hF : F kv ≠ none := by rw [← h4, f5]; exact fun h => by cases h
    have hlen : l1.length < xs.toList.length := by rw [f1]; simp
    have hj : xs[l1.length]? = some e := by
      rw [← Array.getElem?_toList, f1, List.getElem?_append_right (Nat.le_refl _), Nat.sub_self]; rfl
    rw [Nat.zero_add] at f4
    have hrun : (Instr.mapUpdate T (.map (some g)) kv v).run P w = .ok () { w with heap := w.heap.setIfInBounds g (.map (xs.modify l1.length fun e => { e with key := kv, val := v }) clk) } := by
      simp [Instr.mapUpdate, run_underlying hT, Go.MapKept.run_getObj_map h1, run_checkKey (w := w) hk hkey, run_findKey (w := w) hk f4, hj, f2, run_keyThatStays hkey, Go.MapKept.run_setObj_map _ h1, Result.andThen]
    have hl : (xs.modify l1.length fun e => { e with key := kv, val := v }).toList = l1 ++ { e with key := kv, val := v } :: l2 := by
      rw [Array.toList_modify, f1, List.modify_eq_take_cons_drop (by simp)]
      simp
    refine ⟨_, hrun, ⟨xs.modify l1.length fun e => { e with key := kv, val := v }, clk, by simp [hlt], ?_, ?_, ?_⟩, turn _ _⟩
    · rw [hl]
      intro x hx
      rcases List.mem_append.1 hx with hx | hx
      · exact h2 x (by rw [f1]; exact List.mem_append_left _ hx)
      · rcases List.mem_cons.1 hx with rfl | hx
        · exact hkey
        · exact h2 x (by rw [f1]; exact List.mem_append_right _ (List.mem_cons_of_mem _ hx))
    · rw [if_neg hF, Array.size_modify, h3]
    · intro k'
      rw [hl]
      by_cases c : k' = kv
      · subst c
        rw [upd_same, lk_append _ _ f3, lk, if_pos rfl]
      · rw [upd_ne c, lk_other (k := kv) f2 rfl c, ← f1, h4]
variable {ops : Array Oper} {o : Oper} {a : Act} {Q : Exit → Act → World → Prop} {K : Act → World → Prop} {E : Prop}
theorem step_update_map (hgd : o.guard = none) (T : TypeId) (m k x : Operand) (ho : o.op = .mapUpdate T m k x) (kt et : TypeId) (hT : P.underlying T = some (.map kt et)) (d : TypeDesc) (hk : P.underlying kt = some d)
    (g : Nat) (hm : a.eval m = .map (some g)) (kv : Value) (hkv : a.eval k = kv) (hkey : IsKey d kv) (v : Value) (hv : a.eval x = v) (n : Nat) (F : Value → Option Value) (hg : MapF w g d n F)
    (h : ∀ w', MapF w' g d (if F kv = none then n + 1 else n) (upd F kv v) → TurnB w w' g → K (a.put o.dst undef) w') :
    if Region.wanted o (yielded ops a.tmps) = true then Oper.wp P o a w K Q else E := by
  have hw : Region.wanted o (yielded ops a.tmps) = true := by simp [Region.wanted, hgd]
  rw [if_pos hw]
  obtain ⟨w', hrun, h1, h2⟩ := run_updateF (P := P) T kt et hT d hk g kv hkey v n F hg
  unfold Oper.wp
  simp [execOp, ho, hm, hkv, hv, hrun, Result.andThen]
  exact h _ h1 h2
end
end Go.Proofs.YthcbiohmghaobaaDoor
/-
  A map made, an entry of a map's literal laid, in a drawn region. Nothing of the program.
-/
namespace Go.Proofs.YthcbiohmghaobaaDoor
open Go.RowKit Go.MapKept
section
variable {P : Program} {w : World} {ops : Array Oper} {o : Oper} {a : Act} {Q : Exit → Act → World → Prop} {K : Act → World → Prop} {E : Prop}
theorem step_make_mapF (hgd : o.guard = none) (T : TypeId) (ho : o.op = .makeMap T none) (d : TypeDesc)
    (h : ∀ w', MapF w' w.heap.size d 0 (fun _ => none) → Below w.heap.size w w' → K (a.put o.dst (.map (some w.heap.size))) w') :
    if Region.wanted o (yielded ops a.tmps) = true then Oper.wp P o a w K Q else E := by
  have hw : Region.wanted o (yielded ops a.tmps) = true := by simp [Region.wanted, hgd]
  rw [if_pos hw]
  unfold Oper.wp
  simp [execOp, ho, run_makeMap, Result.andThen]
  exact h _ ⟨#[], 0, heap_alloc_new w _, (fun x h => by simp at h), rfl, fun k => rfl⟩ ((Below.refl _ _).alloc (Nat.le_refl _) _)
theorem step_insert_mapF (hgd : o.guard = none) (T : TypeId) (m k x : Operand) (ho : o.op = .insert T m k x) (kt et : TypeId) (hT : P.underlying T = some (.map kt et)) (d : TypeDesc) (hk : P.underlying kt = some d)
    (g : Nat) (hm : a.eval m = .map (some g)) (kv : Value) (hkv : a.eval k = kv) (hkey : IsKey d kv) (v : Value) (hv : a.eval x = v) (n : Nat) (F : Value → Option Value) (hg : MapF w g d n F)
    (h : ∀ w', MapF w' g d (if F kv = none then n + 1 else n) (upd F kv v) → TurnB w w' g → K (a.put o.dst undef) w') :
    if Region.wanted o (yielded ops a.tmps) = true then Oper.wp P o a w K Q else E := by
  have hw : Region.wanted o (yielded ops a.tmps) = true := by simp [Region.wanted, hgd]
  rw [if_pos hw]
  obtain ⟨w', hrun, h1, h2⟩ := run_updateF (P := P) T kt et hT d hk g kv hkey v n F hg
  unfold Oper.wp
  simp [execOp, ho, hm, hkv, hv, hrun, Result.andThen]
  exact h _ h1 h2
end
end Go.Proofs.YthcbiohmghaobaaDoor
/-
  Layer 19: the program's New. (gen_VfsNew.py writes it.)
-/
namespace Go.Proofs.YthcbiohmghaobaaDoor.Vfs
open Go.RowKit Go.MapKept Go.Proofs.YthcbiohmghaobaaDoor.Pnm Flt

theorem isn_any (n : Int) (B : Bool) (hB : B = true ↔ 1 ≤ n ∧ n ≤ 1000000) (w : World) : Calls Tryd.prog 36 #[.int .i64 n] w fun e w' => e = .returned (.bool B) ∧ w = w' := by
  by_cases h1 : 1 ≤ n
  · by_cases h2 : n ≤ 1000000
    · obtain rfl : B = true := hB.2 ⟨h1, h2⟩
      clear hB
      go_enter Tryd.func36, Tryd.ntmps36
      go_wp2
      go_ret
      exact ⟨rfl, rfl⟩
    · obtain rfl : B = false := by
        cases B with
        | false => rfl
        | true => exact absurd (hB.1 rfl).2 h2
      clear hB
      go_enter Tryd.func36, Tryd.ntmps36
      go_wp2
      go_ret
      exact ⟨rfl, rfl⟩
  · obtain rfl : B = false := by
      cases B with
      | false => rfl
      | true => exact absurd (hB.1 rfl).1 h1
    clear hB
    go_enter Tryd.func36, Tryd.ntmps36
    go_wp2
    go_ret
    exact ⟨rfl, rfl⟩
theorem neg_any (d : Int) (w : World) : Calls Tryd.prog 35 #[.int .i64 d] w fun e w' => e = .returned (.bool (decide (d < 0))) ∧ w = w' := by
  go_enter Tryd.func35, Tryd.ntmps35
  go_wp2
  go_ret
  exact ⟨rfl, rfl⟩
set_option maxHeartbeats 1000000 in
theorem nix_any (a : Option Addr) (n c : Nat) (R : List Int) (w : World) (hi : InK .i64 w a R) (hl : R.length = n) (hn : n ≤ 9223372036854775807) (B : Bool) (hB : B = true ↔ ∃ z ∈ R, z < 0) :
    Calls Tryd.prog 63 #[.slice a n c, .func (.func 35) #[] #[]] w fun e w' => (∃ z : Int, e = .returned (.int .i64 z) ∧ decide (z ≥ 0) = B) ∧ w = w' := by
  have HI := Lib.hid hi; have HL := Lib.hid hl
  have hn' : (n : Int) ≤ 9223372036854775807 := by omega
  have HB := Lib.hid hB
  clear hi hl hn hB
  go_enter Tryd.func63, Tryd.ntmps63
  go_wp2_with fail
  go_loop [5, 8] (fun _ i => ∃ j : Nat, j ≤ n ∧ i = .int .i64 j ∧ Hid (∀ k, k < j → 0 ≤ R.getD k 0)) (fun _ i => n - (intOf i).toNat)
  case atStart => exact ⟨0, Nat.zero_le _, rfl, fun k hk => absurd hk (Nat.not_lt_zero k)⟩
  case round =>
    obtain ⟨j, hj, rfl, HP⟩ := hrel
    by_cases hlt : j < n
    · have hlt' : (j : Int) < n := by omega
      obtain ⟨b, off, rfl, _⟩ := HI.out.plain (by rw [HL.out]; omega)
      obtain ⟨d, hd⟩ := named (R.getD j 0)
      have hcell := HI.out.get j (by rw [HL.out]; exact hlt)
      rw [← hd.out] at hcell
      by_cases h0 : d < 0
      · have hne : decide (d < 0) = true := by simpa using h0
        have BB : Hid (B = true) := HB.out.2 ⟨d, by rw [hd.out, List.getD_eq_getElem?_getD, List.getElem?_eq_getElem (by rw [HL.out]; exact hlt)]; exact List.getElem_mem _, h0⟩
        clear hd h0
        go_wp2_with fail
        refine (neg_any d w).mono ?_; rintro e w1 ⟨rfl, rfl⟩
        rw [hne]
        go_wp2_with fail
        go_ret
        exact ⟨⟨_, rfl, by rw [BB.out]; simp⟩, rfl⟩
      · have hne : decide (d < 0) = false := by simpa using h0
        have HP2 : Hid (∀ k, k < j + 1 → 0 ≤ R.getD k 0) := fun k hk => by
          by_cases e : k < j
          · exact HP.out k e
          · obtain rfl : k = j := by omega
            rw [← hd.out]; omega
        clear hd h0
        go_wp2_with fail
        refine (neg_any d w).mono ?_; rintro e w1 ⟨rfl, rfl⟩
        rw [hne]
        go_wp2_with fail
        go_round
        case rel => exact ⟨j + 1, by omega, by go_num, HP2⟩
        case measure => simp [intOf]; omega
    · have hj : j = n := by omega
      have BB : Hid (B = false) := by
        show B = false
        cases hb : B with
        | false => rfl
        | true =>
          obtain ⟨z, hz, hz0⟩ := HB.out.1 hb
          obtain ⟨i, hi, rfl⟩ := List.getElem_of_mem hz
          have := HP.out i (by rw [hj, ← HL.out]; exact hi)
          rw [List.getD_eq_getElem?_getD, List.getElem?_eq_getElem hi] at this
          have : 0 ≤ R[i] := this
          omega
      subst hj
      go_wp2_with fail
      go_ret
      exact ⟨⟨_, rfl, by rw [BB.out]; rfl⟩, rfl⟩
theorem ncf_any (a : Option Addr) (n c : Nat) (R : List Int) (w : World) (hi : InK .i64 w a R) (hl : R.length = n) (hn : n ≤ 9223372036854775807) (B : Bool) (hB : B = true ↔ ∃ z ∈ R, z < 0) :
    Calls Tryd.prog 37 #[.slice a n c, .func (.func 35) #[] #[]] w fun e w' => e = .returned (.bool B) ∧ w = w' := by
  have IX := Lib.hid (nix_any a n c R w hi hl hn B hB)
  clear hi hl hn hB
  go_enter Tryd.func37, Tryd.ntmps37
  go_wp2_with fail
  refine IX.out.mono ?_; rintro e w1 ⟨⟨z, rfl, hz⟩, rfl⟩
  go_wp2_with fail
  go_ret
  exact ⟨rfl, rfl⟩
/-- is an option a good one -/
def numOk (n : Int) : Prop := 1 ≤ n ∧ n ≤ 1000000
instance (n : Int) : Decidable (numOk n) := by unfold numOk; infer_instance
def optE (F S : Int) (R : List Int) : Int := if numOk F ∧ numOk S ∧ ∀ z ∈ R, 0 ≤ z then 0 else 2
abbrev opL (F S : Int) (a : Option Addr) (n c : Nat) : List Value := [.int .i64 F, .int .i64 S, .slice a n c]
section
set_option maxRecDepth 100000 in
set_option maxHeartbeats 1000000 in
theorem new_bad (F S : Int) (a : Option Addr) (n c : Nat) (R : List Int) (w : World) (hi : InK .i64 w a R) (hl : R.length = n) (hn : n ≤ 17592186044416) (hE : optE F S R ≠ 0) :
    Calls Tryd.prog 12 #[.agg (opL F S a n c).toArray] w fun e w' => e = .returned (.tuple #[.pointer none, .int .i64 2]) ∧ Below w.heap.size w w' := by
  have NF := Lib.hid fun w' => isn_any F (decide (numOk F)) (show _ ↔ numOk F from decide_eq_true_iff) w'
  have NS := Lib.hid fun w' => isn_any S (decide (numOk S)) (show _ ↔ numOk S from decide_eq_true_iff) w'
  by_cases h1 : numOk F
  · rw [decide_eq_true h1] at NF
    by_cases h2 : numOk S
    · rw [decide_eq_true h2] at NS
      have h3 : ∃ z ∈ R, z < 0 := by
        refine Classical.byContradiction fun c => hE ?_
        unfold optE
        rw [if_pos ⟨h1, h2, fun z hz => by
          by_cases e : z < 0
          · exact absurd ⟨z, hz, e⟩ c
          · omega⟩]
      have CF := Lib.hid fun w' (hb : Below w.heap.size w w') => ncf_any a n c R w' (hi.below hb) hl (by omega) true (by simpa using h3)
      clear hi hl hn hE h1 h2 h3
      go_enter Tryd.func12, Tryd.ntmps12
      go_wp2_with (first | (refine wpList_box_obj rfl 30 _ rfl (opL F S a n c) rfl ?_; intro w1 h1 b1; have B1 := Lib.hid b1; have O1 := Lib.hid h1; have q0 := h1.get 0 rfl; have q1 := h1.get 1 rfl; have q2 := h1.get 2 rfl; clear h1 b1))
      refine (NF.out w1).mono ?_; rintro e w2 ⟨rfl, rfl⟩
      go_wp2_with fail
      refine (NS.out w1).mono ?_; rintro e w2 ⟨rfl, rfl⟩
      go_wp2_with fail
      refine (CF.out w1 B1.out).mono ?_; rintro e w2 ⟨rfl, rfl⟩
      go_wp2_with fail
      go_ret2
      exact ⟨rfl, B1.out⟩
    · rw [decide_eq_false h2] at NS
      clear hi hl hn hE h1 h2
      go_enter Tryd.func12, Tryd.ntmps12
      go_wp2_with (first | (refine wpList_box_obj rfl 30 _ rfl (opL F S a n c) rfl ?_; intro w1 h1 b1; have B1 := Lib.hid b1; have O1 := Lib.hid h1; have q0 := h1.get 0 rfl; have q1 := h1.get 1 rfl; have q2 := h1.get 2 rfl; clear h1 b1))
      refine (NF.out w1).mono ?_; rintro e w2 ⟨rfl, rfl⟩
      go_wp2_with fail
      refine (NS.out w1).mono ?_; rintro e w2 ⟨rfl, rfl⟩
      go_wp2_with fail
      go_ret2
      exact ⟨rfl, B1.out⟩
  · rw [decide_eq_false h1] at NF
    clear hi hl hn hE h1
    go_enter Tryd.func12, Tryd.ntmps12
    go_wp2_with (first | (refine wpList_box_obj rfl 30 _ rfl (opL F S a n c) rfl ?_; intro w1 h1 b1; have B1 := Lib.hid b1; have O1 := Lib.hid h1; have q0 := h1.get 0 rfl; have q1 := h1.get 1 rfl; have q2 := h1.get 2 rfl; clear h1 b1))
    refine (NF.out w1).mono ?_; rintro e w2 ⟨rfl, rfl⟩
    go_wp2_with fail
    go_ret2
    exact ⟨rfl, B1.out⟩
end
end Go.Proofs.YthcbiohmghaobaaDoor.Vfs
/-
  Layer 19: the program's New of good options. (gen_VfsNewB.py writes it.)
-/
namespace Go.Proofs.YthcbiohmghaobaaDoor.Vfs
open Go.RowKit Go.MapKept Go.Proofs.YthcbiohmghaobaaDoor.Pnm Flt

/-- a row stays where a map turns -/
theorem ownI {w w' : World} {base n size g nm : Nat} {d : TypeDesc} {e : TypeId} {v : Value} {xs : List Value} {Fm : Value → Option Value} (h : w.ownsRow base e size v n xs) (hm : MapF w g d nm Fm) (t : TurnB w w' g) : w'.ownsRow base e size v n xs := own_keepS h fun k hk _ => t.other fun c => by
  obtain ⟨xs', clk, h1, _⟩ := hm
  rcases h.2 with ⟨h', _⟩ | ⟨g', cap', cur, hv, _, hh, _⟩
  · rw [h'] at hk; cases hk
  · rw [hv] at hk
    obtain rfl : g' = k := by simpa [Value.ownBlock] using hk
    rw [c, h1] at hh; cases hh
theorem mpF_st0 (F : Int) (y : InM) : mpF (st0 F).ps [y] = upd (fun _ => none) (.string ⟨#[]⟩) (.pointer (some ⟨y.g, 0, none⟩)) := by
  have h0 : mpF [] [y] = fun _ => none := by funext v; cases v <;> rfl
  rw [← h0]
  exact mpF_snoc (ps := []) (M := [y]) (i := 0) rfl rfl
section
set_option maxRecDepth 100000 in
set_option maxHeartbeats 4000000 in
theorem new_good (N : Nat) (hN : 0 < N) (F S : Int) (a : Option Addr) (n c : Nat) (R : List Int) (w : World) (hi : InK .i64 w a R) (hl : R.length = n) (hn : n ≤ 17592186044416) (hE : optE F S R = 0) :
    Calls Tryd.prog 12 #[.agg (opL F S a n c).toArray] w fun e w' => ∃ f, e = .returned (.tuple #[.pointer (some ⟨f, 0, none⟩), .int .i64 0]) ∧ FsS N F S R (fun k => w.heap.size ≤ k ∧ k < w'.heap.size) w' f (st0 F) ∧ Below w.heap.size w w' := by
  have hok : numOk F ∧ numOk S ∧ ∀ z ∈ R, 0 ≤ z := by
    unfold optE at hE
    by_cases h : numOk F ∧ numOk S ∧ ∀ z ∈ R, 0 ≤ z
    · exact h
    · rw [if_neg h] at hE; cases hE
  obtain ⟨h1, h2, h3⟩ := hok
  have NF := Lib.hid fun w' => isn_any F true ⟨fun _ => h1, fun _ => rfl⟩ w'
  have NS := Lib.hid fun w' => isn_any S true ⟨fun _ => h2, fun _ => rfl⟩ w'
  have CF := Lib.hid fun w' (hb : Below w.heap.size w w') => ncf_any a n c R w' (hi.below hb) hl (by omega) false (by
    constructor
    · intro h; cases h
    · rintro ⟨z, hz, hz0⟩; have := h3 z hz; omega)
  have HI0 := Lib.hid hi; have HL := Lib.hid hl; have HNN := Lib.hid hn; have H3 := Lib.hid h3; have HN := Lib.hid hN
  have bF : 1 ≤ F ∧ F ≤ 1000000 := h1
  have bS : 1 ≤ S ∧ S ≤ 1000000 := h2
  have lw : IntKind.i64.wrap (F + S) = F + S := wrapP (by omega) (by omega)
  have BB : Hid (1 ≤ F ∧ F ≤ 1000000 ∧ 1 ≤ S ∧ S ≤ 1000000) := ⟨bF.1, bF.2, bS.1, bS.2⟩
  clear hi hl hn hE h1 h2 h3 bF bS hN
  go_enter Tryd.func12, Tryd.ntmps12
  go_wp2_with (first | (refine wpList_box_obj rfl 30 _ rfl (opL F S a n c) rfl ?_; intro w1 h1 b1; have B1 := Lib.hid b1; have O1 := Lib.hid h1; have q0 := h1.get 0 rfl; have q1 := h1.get 1 rfl; have q2 := h1.get 2 rfl; clear h1 b1))
  refine (NF.out w1).mono ?_; rintro e w2 ⟨rfl, rfl⟩
  go_wp2_with fail
  refine (NS.out w1).mono ?_; rintro e w2 ⟨rfl, rfl⟩
  go_wp2_with fail
  refine (CF.out w1 B1.out).mono ?_; rintro e w2 ⟨rfl, rfl⟩
  go_wp2_with (first | (refine wpList_box_obj rfl 80 _ rfl (inoL 0 493 F 1 0 ⟨#[]⟩ 0 0 none 0 0 (.slice none 0 0)) rfl ?_; intro w2 h2 b2; have B2 := Lib.hid b2; have I2 := Lib.hid h2; clear h2 b2))
  have BW2 : Hid (Below w.heap.size w w2) := belT B1.out B2.out
  have O2 := Lib.hid (O1.out.below B2.out O1.out.lt)
  have KS : Hid (∀ wS, Below w2.heap.size w2 wS → (fun wS => wS.cell? ⟨w.heap.size, 0, none⟩ = some (.int .i64 F) ∧ wS.cell? ⟨w.heap.size, 1, none⟩ = some (.int .i64 S) ∧ wS.cell? ⟨w.heap.size, 2, none⟩ = some (.slice a n c)) wS) := fun wS hb => ⟨(O2.out.below hb O2.out.lt).get 0 rfl, (O2.out.below hb O2.out.lt).get 1 rfl, (O2.out.below hb O2.out.lt).get 2 rfl⟩
  have IC := Lib.hid fun w' (hb : Below w2.heap.size w2 w') => iclone a n c R w' (HI0.out.below (belT BW2.out hb)) HL.out HNN.out
  have FIN : Hid (∀ gm ac cc nmm wy wz, w2.heap.size ≤ gm → MapF wy gm .string nmm (upd (fun _ => none) (.string ⟨#[]⟩) (.pointer (some ⟨w1.heap.size, 0, none⟩))) → wy.ownsRow w2.heap.size 3 1 (.slice ac n cc) n (R.map (.int .i64)) → Below w2.heap.size w2 wy → Below wy.heap.size wy wz → ObjAt wz wy.heap.size 84 (fsL gm (F + S) S ac n cc 0) →
      FsS N F S R (fun k => w.heap.size ≤ k ∧ k < wz.heap.size) wz wy.heap.size (st0 F) ∧ Below w.heap.size w wz) := by
    intro gm ac cc nmm wy wz hgm hm ho hb bz hz
    have s1 := B1.out.size; have s2 := B2.out.size; have s3 := hb.size; have s4 := bz.size; have i2 := I2.out.lt; have ml := hm.lt
    have oz := hz.lt
    have hI := (I2.out.below hb I2.out.lt).below bz (by omega)
    have ho' := own_stay' ho bz (Nat.le_refl _)
    have hm' := hm.below bz hm.lt
    obtain ⟨b, cap, hv, q1, q2, q3, q4, q5⟩ := own_any ho'
    simp only [Value.slice.injEq, true_and] at hv
    obtain ⟨rfl, rfl⟩ := hv
    have hne : ∀ x, ac = some x → x.block ≠ wy.heap.size ∧ x.block ≠ gm ∧ x.block ≠ w1.heap.size := fun x hx => by
      have e : (Value.slice ac n cc).ownBlock = some x.block := by rw [hx]; rfl
      refine ⟨fun c => not_obj ho' hz (by decide) (by rw [e, c]), fun c => ?_, fun c => not_obj ho' hI (by decide) (by rw [e, c])⟩
      obtain ⟨xs', clk, h1, _⟩ := hm'
      rcases ho'.2 with ⟨h', _⟩ | ⟨g', cap', cur, hv', _, hh, _⟩
      · rw [h'] at e; cases e
      · rw [hv'] at e
        obtain rfl : g' = x.block := by simpa [Value.ownBlock] using e
        rw [c, h1] at hh; cases hh
    refine ⟨⟨fun k => k = wy.heap.size ∨ k = gm ∨ k = w1.heap.size, fun k => ∃ x, ac = some x ∧ x.block = k, gm, nmm, ac, cc, [⟨w1.heap.size, none, 0, .slice none 0 0⟩], ⟨?_, ?_, (gd0 N F S HN.out).wf, rfl, q1, by rw [HL.out]; exact q2, q3, fun x hx _ => ⟨x, hx, rfl⟩, H3.out, .inl rfl, .inr (.inl rfl), ?_, ?_, ?_, ?_, ?_, BB.out⟩, ?_, fun k hk => hk.2⟩, (BW2.out.trans (hb.mono (by omega))).trans (bz.mono (by omega))⟩
    · rw [HL.out]
      have e : F + S * ((st0 F).is.length : Int) = F + S := by show F + S * 1 = _; omega
      have e2 : rix R (st0 F) = 0 := by
        unfold rix
        split
        · rfl
        · exact Nat.zero_mod _
      rw [e, e2]
      exact hz
    · rw [mpF_st0]; exact hm'
    · intro i x y hx hy
      match i with
      | 0 =>
        obtain rfl : _ = x := Option.some.inj hx
        obtain rfl : _ = y := Option.some.inj hy
        exact ⟨hI, .inr (.inr rfl), .inl rfl, Nat.le_refl _, Nat.zero_le _, fun a ha => (by cases ha), ⟨rfl, .inl ⟨rfl, rfl⟩⟩, fun k hk => (by cases hk)⟩
      | i + 1 => simp at hy
    · intro i j y z hy hz' _
      match i, j with
      | 0, 0 => rfl
      | 0, j + 1 => simp at hz'
      | i + 1, _ => simp at hy
    · intro i j y z k hy hz' _ _
      match i, j with
      | 0, 0 => rfl
      | 0, j + 1 => simp at hz'
      | i + 1, _ => simp at hy
    · rintro k hk ⟨x, hx, rfl⟩
      obtain ⟨n1, n2, n3⟩ := hne x hx
      rcases hk with c | c | c
      · exact n1 c
      · exact n2 c
      · exact n3 c
    · rintro k ((rfl | rfl | rfl) | ⟨x, hx, rfl⟩)
      · exact oz
      · omega
      · omega
      · exact (q5 x hx).2.1
    · rintro k ((rfl | rfl | rfl) | ⟨x, hx, rfl⟩)
      · exact ⟨by omega, oz⟩
      · exact ⟨by omega, by omega⟩
      · exact ⟨by omega, by omega⟩
      · have := q5 x hx; exact ⟨by omega, this.2.1⟩
  clear q0 q1 q2
  refine wp_region_held_drew (S := (fun wS => wS.cell? ⟨w.heap.size, 0, none⟩ = some (.int .i64 F) ∧ wS.cell? ⟨w.heap.size, 1, none⟩ = some (.int .i64 S) ∧ wS.cell? ⟨w.heap.size, 2, none⟩ = some (.slice a n c))) (by kernel_rfl) (KS.out _ (Below.refl w2.heap.size w2).drew) (fun hHeld => ?_)
  refine tk 1 ?_; simp only [Act.put, sbA, scZ, scS]
  refine tk 4 ?_; simp only [Act.put, sbA, scZ, scS]
  refine tk 5 ?_; simp only [Act.put, sbA, scZ, scS]
  refine tk 6 ?_; simp only [Act.put, sbA, scZ, scS]
  refine tk 7 ?_; simp only [Act.put, sbA, scZ, scS]
  refine tk 8 ?_; simp only [Act.put, sbA, scZ, scS]
  refine tk 9 ?_; simp only [Act.put, sbA, scZ, scS]
  refine tk 10 ?_; simp only [Act.put, sbA, scZ, scS]
  refine tk 11 ?_; simp only [Act.put, sbA, scZ, scS]
  refine tk 12 ?_; simp only [Act.put, sbA, scZ, scS]
  refine rdy (Go.Proofs.YthcbiohmghaobaaDoor.rc 0 (fun K hK => ?_) (Go.Proofs.YthcbiohmghaobaaDoor.rc 13 (fun K hK => ?_) .nil))
  · refine step_make_mapF rfl 81 rfl .string ?_
    intro wm hm bm
    have BM : Hid (Below w2.heap.size w2 wm) := belT (Below.refl w2.heap.size w2).drew bm
    obtain ⟨gm, hgm⟩ : ∃ g, g = w2.drew.heap.size := ⟨_, rfl⟩
    rw [← hgm] at hm
    rw [← hgm]
    have HM := Lib.hid hm
    have GM : Hid (w2.heap.size ≤ gm) := by show _ ≤ _; rw [hgm]; exact ((Below.refl w2.heap.size w2).drew).size
    clear hm bm hgm
    refine hK.out _ _ (KS.out _ BM.out) (fun hHeld => ?_)
    clear hK K
    (try simp only [Act.put, sbA, scZ, scS])
    refine rdy (Go.Proofs.YthcbiohmghaobaaDoor.rc 2 (fun K hK => ?_) (Go.Proofs.YthcbiohmghaobaaDoor.rc 13 (fun K hK => ?_) .nil))
    · refine step_insert_mapF rfl 81 _ _ _ rfl 9 78 Tryd.underlying81 .string Tryd.underlying9 gm rfl (.string ⟨#[]⟩) rfl trivial (.pointer (some ⟨w1.heap.size, 0, none⟩)) rfl 0 _ (HM.out) ?_
      intro wi hi' ti
      have HI := Lib.hid hi'
      have BI : Hid (Below w2.heap.size w2 wi) := BM.out.trans (ti.below GM.out)
      have TI := Lib.hid ti
      clear hi' ti
      refine hK.out _ _ (KS.out _ BI.out) (fun hHeld => ?_)
      clear hK K
      (try simp only [Act.put])
      refine tk 3 ?_; simp only [Act.put, sbA, scZ, scS]
      refine rd 13 (fun K hK => ?_)
      go_simp
      refine (IC.out wi (BI.out)).mono ?_; rintro e wc ⟨vc, rfl, oc, bc⟩
      have BC : Hid (Below w2.heap.size w2 wc) := belT (BI.out) bc
      have BCW : Hid (Below (wi).heap.size (wi) wc) := bc
      have OC := Lib.hid (own_lower oc (BI.out).size)
      obtain ⟨ac, cc, rfl, _, _⟩ := own_slice OC.out
      clear oc bc
      refine hK.out _ _ (KS.out _ BC.out) (fun hHeld => ?_)
      clear hK K
      (try simp only [Act.put, sbA, scZ, scS])
      refine tk 14 ?_; simp only [Act.put, sbA, scZ, scS]
      refine rd 15 (fun K hK => ?_)
      refine step_box_obj rfl 84 _ rfl (fsL gm (F + S) S ac n cc 0) rfl ?_
      intro wz hz bz
      have BZ : Hid (Below w2.heap.size w2 wz) := belT BC.out bz
      have KP := Lib.hid (FIN.out gm ac cc _ _ wz GM.out (HI.out.below BCW.out HI.out.lt) (OC.out) BC.out bz hz)
      clear hz bz
      refine hK.out _ _ (KS.out _ BZ.out) (fun hHeld => ?_)
      clear hK K
      (try simp only [Act.put])
      refine tk 16 ?_; simp only [Act.put, sbA, scZ, scS]
      refine tk 17 ?_; simp only [Act.put, sbA, scZ, scS]
      refine wpAnyH_done (by kernel_rfl) ?_ _
      go_wp2_with fail
      go_ret2
      exact ⟨_, rfl, KP.out⟩
    · go_simp
      refine (IC.out wm (BM.out)).mono ?_; rintro e wc ⟨vc, rfl, oc, bc⟩
      have BC : Hid (Below w2.heap.size w2 wc) := belT (BM.out) bc
      have BCW : Hid (Below (wm).heap.size (wm) wc) := bc
      have OC := Lib.hid (own_lower oc (BM.out).size)
      obtain ⟨ac, cc, rfl, _, _⟩ := own_slice OC.out
      clear oc bc
      refine hK.out _ _ (KS.out _ BC.out) (fun hHeld => ?_)
      clear hK K
      (try simp only [Act.put, sbA, scZ, scS])
      refine rd 2 (fun K hK => ?_)
      refine step_insert_mapF rfl 81 _ _ _ rfl 9 78 Tryd.underlying81 .string Tryd.underlying9 gm rfl (.string ⟨#[]⟩) rfl trivial (.pointer (some ⟨w1.heap.size, 0, none⟩)) rfl 0 _ (HM.out.below BCW.out HM.out.lt) ?_
      intro wi hi' ti
      have HI := Lib.hid hi'
      have BI : Hid (Below w2.heap.size w2 wi) := BC.out.trans (ti.below GM.out)
      have TI := Lib.hid ti
      clear hi' ti
      refine hK.out _ _ (KS.out _ BI.out) (fun hHeld => ?_)
      clear hK K
      (try simp only [Act.put])
      refine tk 3 ?_; simp only [Act.put, sbA, scZ, scS]
      refine tk 14 ?_; simp only [Act.put, sbA, scZ, scS]
      refine rd 15 (fun K hK => ?_)
      refine step_box_obj rfl 84 _ rfl (fsL gm (F + S) S ac n cc 0) rfl ?_
      intro wz hz bz
      have BZ : Hid (Below w2.heap.size w2 wz) := belT BI.out bz
      have KP := Lib.hid (FIN.out gm ac cc _ _ wz GM.out (HI.out) (ownI OC.out (HM.out.below BCW.out HM.out.lt) TI.out) BI.out bz hz)
      clear hz bz
      refine hK.out _ _ (KS.out _ BZ.out) (fun hHeld => ?_)
      clear hK K
      (try simp only [Act.put])
      refine tk 16 ?_; simp only [Act.put, sbA, scZ, scS]
      refine tk 17 ?_; simp only [Act.put, sbA, scZ, scS]
      refine wpAnyH_done (by kernel_rfl) ?_ _
      go_wp2_with fail
      go_ret2
      exact ⟨_, rfl, KP.out⟩
  · go_simp
    refine (IC.out w2.drew ((Below.refl w2.heap.size w2).drew)).mono ?_; rintro e wc ⟨vc, rfl, oc, bc⟩
    have BC : Hid (Below w2.heap.size w2 wc) := belT ((Below.refl w2.heap.size w2).drew) bc
    have BCW : Hid (Below (w2.drew).heap.size (w2.drew) wc) := bc
    have OC := Lib.hid (own_lower oc ((Below.refl w2.heap.size w2).drew).size)
    obtain ⟨ac, cc, rfl, _, _⟩ := own_slice OC.out
    clear oc bc
    refine hK.out _ _ (KS.out _ BC.out) (fun hHeld => ?_)
    clear hK K
    (try simp only [Act.put, sbA, scZ, scS])
    refine rd 0 (fun K hK => ?_)
    refine step_make_mapF rfl 81 rfl .string ?_
    intro wm hm bm
    have BM : Hid (Below w2.heap.size w2 wm) := belT BC.out bm
    obtain ⟨gm, hgm⟩ : ∃ g, g = wc.heap.size := ⟨_, rfl⟩
    rw [← hgm] at hm
    rw [← hgm]
    have HM := Lib.hid hm
    have BMW : Hid (Below wc.heap.size wc wm) := bm
    have GM : Hid (w2.heap.size ≤ gm) := by show _ ≤ _; rw [hgm]; exact (BC.out).size
    clear hm bm hgm
    refine hK.out _ _ (KS.out _ BM.out) (fun hHeld => ?_)
    clear hK K
    (try simp only [Act.put, sbA, scZ, scS])
    refine rd 2 (fun K hK => ?_)
    refine step_insert_mapF rfl 81 _ _ _ rfl 9 78 Tryd.underlying81 .string Tryd.underlying9 gm rfl (.string ⟨#[]⟩) rfl trivial (.pointer (some ⟨w1.heap.size, 0, none⟩)) rfl 0 _ (HM.out) ?_
    intro wi hi' ti
    have HI := Lib.hid hi'
    have BI : Hid (Below w2.heap.size w2 wi) := BM.out.trans (ti.below GM.out)
    have TI := Lib.hid ti
    clear hi' ti
    refine hK.out _ _ (KS.out _ BI.out) (fun hHeld => ?_)
    clear hK K
    (try simp only [Act.put])
    refine tk 3 ?_; simp only [Act.put, sbA, scZ, scS]
    refine tk 14 ?_; simp only [Act.put, sbA, scZ, scS]
    refine rd 15 (fun K hK => ?_)
    refine step_box_obj rfl 84 _ rfl (fsL gm (F + S) S ac n cc 0) rfl ?_
    intro wz hz bz
    have BZ : Hid (Below w2.heap.size w2 wz) := belT BI.out bz
    have KP := Lib.hid (FIN.out gm ac cc _ _ wz GM.out (HI.out) (ownI (own_keepS OC.out fun g _ hl => BMW.out.block g hl) HM.out TI.out) BI.out bz hz)
    clear hz bz
    refine hK.out _ _ (KS.out _ BZ.out) (fun hHeld => ?_)
    clear hK K
    (try simp only [Act.put])
    refine tk 16 ?_; simp only [Act.put, sbA, scZ, scS]
    refine tk 17 ?_; simp only [Act.put, sbA, scZ, scS]
    refine wpAnyH_done (by kernel_rfl) ?_ _
    go_wp2_with fail
    go_ret2
    exact ⟨_, rfl, KP.out⟩
end
end Go.Proofs.YthcbiohmghaobaaDoor.Vfs
/-
  Layer 19, plain mathematics: the example of the chapter; one file with many paths. No memory.
-/
namespace Go.Proofs.YthcbiohmghaobaaDoor.Vfs
open Go.RowKit Go.Proofs.YthcbiohmghaobaaDoor.Pnm

theorem bne {p q : ByteArray} (h : numsOf p ≠ numsOf q) : p ≠ q := fun c => h (by rw [c])
section
variable {N : Nat} {F S : Int} {s : St}
theorem plc_flat (h : Gd N F S s) {p : ByteArray} (hp : (47 : Int) ∉ numsOf p) (hf : fnd s.ps p = none) : plcE s p = 0 := plc_of (j := 0) (by rw [(par_flat hp).1]; exact h.wf.r) h.rt hf
theorem par_root (h : Gd N F S s) {p : ByteArray} (hp : (47 : Int) ∉ numsOf p) : fnd s.ps (parB p) = some 0 := by rw [(par_flat hp).1]; exact h.wf.r
end
theorem fil_of {k m : Int} {p t : ByteArray} (h : chE (numsOf p) = 0) (h1 : 0 ≤ m) (h2 : m ≤ 4095) (hk : k ≠ 2) : filE k p m t = 0 := by
  unfold filE
  rw [if_neg (by simpa using h), if_neg (by omega), if_neg hk]
/-- file f with i links more: fxx..x -/
def pn : Nat → ByteArray
  | 0 => ⟨#[102]⟩
  | i + 1 => pn i ++ ⟨#[120]⟩
theorem pn_nums : ∀ i, numsOf (pn i) = 102 :: List.replicate i 120
  | 0 => rfl
  | i + 1 => by
    show numsOf (pn i ++ ⟨#[120]⟩) = _
    rw [nums_cat, pn_nums i, List.replicate_succ', List.cons_append]; rfl
theorem pn_size (i : Nat) : (pn i).size = i + 1 := by rw [← numsOf_length, pn_nums]; simp
theorem pn_flat (i : Nat) : (47 : Int) ∉ numsOf (pn i) := by
  rw [pn_nums]
  intro h
  rcases List.mem_cons.1 h with h | h
  · cases h
  · have := (List.mem_replicate.1 h).2; cases this
theorem pn_ok {i : Nat} (hi : i ≤ 1000) : chE (numsOf (pn i)) = 0 := by
  refine flat_ok (pn_flat i) ?_ (by rw [pn_nums]; simp; omega)
  rw [pn_nums]
  refine ⟨by simp, by simp, by simp, fun h => ?_⟩
  rcases List.mem_cons.1 h with h | h
  · cases h
  · have := (List.mem_replicate.1 h).2; cases this
theorem pn_inj {i j : Nat} (h : pn i = pn j) : i = j := by have := congrArg ByteArray.size h; rw [pn_size, pn_size] at this; omega
theorem pn_emp (i : Nat) : emp ≠ pn i := bne (by rw [pn_nums]; exact fun h => by cases h)
structure Ls (N : Nat) (s : St) (i : Nat) (d : List Int) : Prop where
  gd : Gd N 1 1 s
  a : s.at 1 = ⟨1, 420, 2, 1 + (i : Int), d, emp, 0, 0, []⟩
  n : s.is.length = 2
  p : s.ps = (emp, 0) :: (List.range (i + 1)).map fun j => (pn j, 1)
theorem Ls.fnd {N : Nat} {s : St} {i : Nat} {d : List Int} (h : Ls N s i d) {j : Nat} (hj : j ≤ i) : fnd s.ps (pn j) = some 1 := by
  refine fnd_of h.gd.df ?_
  rw [h.p]
  exact List.mem_cons_of_mem _ (List.mem_map.2 ⟨j, List.mem_range.2 (by omega), rfl⟩)
theorem fnd_no {ps : List (ByteArray × Nat)} {p : ByteArray} (h : ∀ q ∈ ps, q.1 ≠ p) : Vfs.fnd ps p = none := by
  cases hf : Vfs.fnd ps p with
  | none => rfl
  | some i => exact absurd rfl (h _ (fnd_mem hf))
theorem Ls.no {N : Nat} {s : St} {i : Nat} {d : List Int} (h : Ls N s i d) : Vfs.fnd s.ps (pn (i + 1)) = none := fnd_no fun q hq => by
  rw [h.p] at hq
  rcases List.mem_cons.1 hq with rfl | hq
  · exact pn_emp _
  · obtain ⟨j, hj, rfl⟩ := List.mem_map.1 hq
    intro c
    have := pn_inj c
    have := List.mem_range.1 hj
    omega
theorem ls_first (N : Nat) (hN : 10 ≤ N) (d : List Int) (hd : d.length ≤ 140737488355328) : mkE (st0 1) 1 (pn 0) 420 emp = 0 ∧ Ls N (mkS 1 1 (st0 1) 1 (pn 0) 420 d emp) 0 d := by
  have g0 := gd0 N 1 1 (by omega)
  have hf : Vfs.fnd (st0 1).ps (pn 0) = none := fnd_no fun q hq => by
    obtain rfl : q = (⟨#[]⟩, 0) := by simpa [st0] using hq
    exact pn_emp 0
  have he : mkE (st0 1) 1 (pn 0) 420 emp = 0 := mk_of (fil_of (pn_ok (by omega)) (by decide) (by decide) (by decide)) (plc_flat g0 (pn_flat 0) hf)
  refine ⟨he, g0.mks (by show 1 < N; omega) hd (Nat.zero_le _), ?_, ?_, ?_⟩
  · rw [mkS_of he]
    exact newS_new (F := 1) (S := 1) (s := st0 1) (par_root g0 (pn_flat 0)) Nat.one_pos
  · rw [mkS_of he, newS_len]; rfl
  · rw [mkS_of he, newS_ps]; rfl
theorem Ls.step {N : Nat} {s : St} {i : Nat} {d : List Int} (h : Ls N s i d) (hi : i < 100) (hN : 1000 ≤ N) : lnkE s (pn (i + 1)) (pn i) = 0 ∧ Ls N (lnkS s (pn (i + 1)) (pn i)) (i + 1) d := by
  have hf := h.fnd (Nat.le_refl i)
  have he : lnkE s (pn (i + 1)) (pn i) = 0 := lnk_of (pn_ok (by omega)) (plc_flat h.gd (pn_flat _) h.no) hf (by rw [h.a])
  have hl : s.ps.length = i + 2 := by rw [h.p]; simp
  refine ⟨he, h.gd.lnk (by omega), ?_, ?_, ?_⟩
  · rw [lnkS_of he hf, putS_at (by rw [h.n]; omega) (par_root h.gd (pn_flat _)) h.gd.nz (by rw [h.n]; omega), h.a, if_pos rfl, if_neg (by omega)]
    show (⟨1, 420, 2, 1 + (i : Int) + 1, d, emp, 0, 0, [] ++ []⟩ : Ino) = _
    rw [Int.add_assoc]; rfl
  · rw [lnkS_of he hf, putS_len, h.n]
  · rw [lnkS_of he hf, putS_ps, h.p, List.range_succ (n := i + 1), List.map_append, List.cons_append]; rfl
/-- the chapter's example -/
structure AlM (N : Nat) : Prop where
  e1 : mkE (st0 1) 1 sA 420 emp = 0
  e2 : lnkE (mkS 1 1 (st0 1) 1 sA 420 [] emp) sB sA = 0
  g : Gd N 1 1 (mkS 1 1 (st0 1) 1 sA 420 [] emp)
  fa : fnd (lnkS (mkS 1 1 (st0 1) 1 sA 420 [] emp) sB sA).ps sA = some 1
  fb : fnd (lnkS (mkS 1 1 (st0 1) 1 sA 420 [] emp) sB sA).ps sB = some 1
  a : (lnkS (mkS 1 1 (st0 1) 1 sA 420 [] emp) sB sA).at 1 = ⟨1, 420, 2, 2, [], emp, 0, 0, []⟩
theorem al_m (N : Nat) (hN : 10 ≤ N) : AlM N := by
  have g0 := gd0 N 1 1 (by omega)
  have fA : (47 : Int) ∉ numsOf sA := by decide
  have fB : (47 : Int) ∉ numsOf sB := by decide
  have hf : Vfs.fnd (st0 1).ps sA = none := fnd_no fun q hq => by
    obtain rfl : q = (⟨#[]⟩, 0) := by simpa [st0] using hq
    exact bne (by decide)
  have e1 : mkE (st0 1) 1 sA 420 emp = 0 := mk_of (fil_of (flat_ok fA (by decide) (by decide)) (by decide) (by decide) (by decide)) (plc_flat g0 fA hf)
  have g1 := g0.mks (k := 1) (p := sA) (m := 420) (t := emp) (d := []) (by show 1 < N; omega) (Nat.zero_le _) (Nat.zero_le _)
  have p1 : (mkS 1 1 (st0 1) 1 sA 420 [] emp).ps = [(emp, 0), (sA, 1)] := by rw [mkS_of e1, newS_ps]; rfl
  have n1 : (mkS 1 1 (st0 1) 1 sA 420 [] emp).is.length = 2 := by rw [mkS_of e1, newS_len]; rfl
  have a1 : (mkS 1 1 (st0 1) 1 sA 420 [] emp).at 1 = ⟨1, 420, 2, 1, [], emp, 0, 0, []⟩ := by
    rw [mkS_of e1]
    exact newS_new (F := 1) (S := 1) (s := st0 1) (par_root g0 fA) Nat.one_pos
  have h1 : Vfs.fnd (mkS 1 1 (st0 1) 1 sA 420 [] emp).ps sA = some 1 := fnd_of g1.df (by rw [p1]; simp)
  have h2 : Vfs.fnd (mkS 1 1 (st0 1) 1 sA 420 [] emp).ps sB = none := fnd_no fun q hq => by
    rw [p1] at hq
    rcases List.mem_cons.1 hq with rfl | hq
    · exact bne (by decide)
    · obtain rfl : q = (sA, 1) := by simpa using hq
      exact bne (by decide)
  have e2 : lnkE (mkS 1 1 (st0 1) 1 sA 420 [] emp) sB sA = 0 := lnk_of (flat_ok fB (by decide) (by decide)) (plc_flat g1 fB h2) h1 (by rw [a1])
  have g2 := g1.lnk (p := sB) (t := sA) (by rw [p1]; show 2 < N; omega)
  have p2 : (lnkS (mkS 1 1 (st0 1) 1 sA 420 [] emp) sB sA).ps = [(emp, 0), (sA, 1), (sB, 1)] := by rw [lnkS_of e2 h1, putS_ps, p1]; rfl
  refine ⟨e1, e2, g1, fnd_of g2.df (by rw [p2]; simp), fnd_of g2.df (by rw [p2]; simp), ?_⟩
  rw [lnkS_of e2 h1, putS_at (by rw [n1]; omega) (par_root g1 fB) g1.nz (by rw [n1]; omega), a1, if_pos rfl, if_neg (by omega)]
  rfl
end Go.Proofs.YthcbiohmghaobaaDoor.Vfs
/-
  Layer 19: the statements' own alive.
-/
namespace Go.Proofs.YthcbiohmghaobaaDoor.Vfs
open Go.RowKit Go.MapKept Go.Proofs.YthcbiohmghaobaaDoor.Pnm Flt

set_option maxRecDepth 100000 in
set_option maxHeartbeats 4000000 in
theorem alive_any (w : World) (V : Pxr.Vars w) : Calls Tryd.prog 10 #[] w fun e w' => e = .returned (.bool true) ∧ Below w.heap.size w w' := by
  have AM := Lib.hid (al_m 100 (by omega))
  obtain ⟨s1, hs1⟩ := named (mkS 1 1 (st0 1) 1 sA 420 [] emp)
  obtain ⟨s2, hs2⟩ := named (lnkS s1 sB sA)
  have g1 : Gd 100 1 1 s1 := by rw [hs1.out]; exact AM.out.g
  have p1 : s1.ps.length ≤ 2 := by
    rw [hs1.out]
    exact mkS_ps ..
  have NW : Hid (Calls Tryd.prog 12 #[.agg (opL 1 1 none 0 0).toArray] w fun e w' => ∃ f, e = .returned (.tuple #[.pointer (some ⟨f, 0, none⟩), .int .i64 0]) ∧ FsS 100 1 1 [] (fun k => w.heap.size ≤ k ∧ k < w'.heap.size) w' f (st0 1) ∧ Below w.heap.size w w') :=
    new_good 100 (by omega) 1 1 none 0 0 [] w (.inl rfl) rfl (by omega) (by decide)
  have CR : Hid (∀ w1 f T, FsS 100 1 1 [] T w1 f (st0 1) → Below w.heap.size w w1 → Calls Tryd.prog 23 #[.pointer (some ⟨f, 0, none⟩), .string ⟨#[97]⟩, .int .i64 420, .slice none 0 0] w1 fun e w' => e = .returned (.int .i64 0) ∧ Only T w1 w' ∧ FsS 100 1 1 [] (Grow T w1 w') w' f s1) := fun w1 f T h hb => by
    have := fcreate_any h (gd0 100 1 1 (by omega)) (by show 1 < 100; omega) (by omega) (V.go hb) sA (by decide) 420 [] none 0 (.inl rfl) (Nat.zero_le _) (.inl rfl)
    rw [AM.out.e1, ← hs1.out] at this
    exact this
  have LN : Hid (∀ w1 f T, FsS 100 1 1 [] T w1 f s1 → Calls Tryd.prog 26 #[.pointer (some ⟨f, 0, none⟩), .string ⟨#[98]⟩, .string ⟨#[97]⟩] w1 fun e w' => e = .returned (.int .i64 0) ∧ Only T w1 w' ∧ FsS 100 1 1 [] (Grow T w1 w') w' f s2) := fun w1 f T h => by
    have := link_any h g1 (by omega) (by omega) sB sA (by decide)
    have e2 : lnkE s1 sB sA = 0 := by rw [hs1.out]; exact AM.out.e2
    rw [e2, ← hs2.out] at this
    exact this
  have vA : stV s2 sA = infL 1 420 2 2 0 emp 0 0 ∧ chE' s2 sA = 0 := by
    have hf : fnd s2.ps sA = some 1 := by rw [hs2.out, hs1.out]; exact AM.out.fa
    have ha : s2.at 1 = ⟨1, 420, 2, 2, [], emp, 0, 0, []⟩ := by rw [hs2.out, hs1.out]; exact AM.out.a
    unfold stV chE'
    rw [hf]
    dsimp only
    rw [ha]
    exact ⟨rfl, rfl⟩
  have vB : stV s2 sB = infL 1 420 2 2 0 emp 0 0 ∧ chE' s2 sB = 0 := by
    have hf : fnd s2.ps sB = some 1 := by rw [hs2.out, hs1.out]; exact AM.out.fb
    have ha : s2.at 1 = ⟨1, 420, 2, 2, [], emp, 0, 0, []⟩ := by rw [hs2.out, hs1.out]; exact AM.out.a
    unfold stV chE'
    rw [hf]
    dsimp only
    rw [ha]
    exact ⟨rfl, rfl⟩
  have LA : Hid (∀ w1 f T, FsS 100 1 1 [] T w1 f s2 → Calls Tryd.prog 20 #[.pointer (some ⟨f, 0, none⟩), .string ⟨#[97]⟩] w1 fun e w' => e = .returned (.tuple #[.agg (infL 1 420 2 2 0 ⟨#[]⟩ 0 0).toArray, .int .i64 0]) ∧ Below w1.heap.size w1 w') := fun w1 f T h => by
    have := lstat_any h sA
    rw [vA.1, vA.2] at this
    exact this
  have LB : Hid (∀ w1 f T, FsS 100 1 1 [] T w1 f s2 → Calls Tryd.prog 20 #[.pointer (some ⟨f, 0, none⟩), .string ⟨#[98]⟩] w1 fun e w' => e = .returned (.tuple #[.agg (infL 1 420 2 2 0 ⟨#[]⟩ 0 0).toArray, .int .i64 0]) ∧ Below w1.heap.size w1 w') := fun w1 f T h => by
    have := lstat_any h sB
    rw [vB.1, vB.2] at this
    exact this
  have hq : ∀ w : World, (Op.equalIn 10000 52 (.agg #[.int .i64 1, .int .i64 420, .int .i64 2, .int .i64 2, .int .i64 0, .string ⟨#[]⟩, .int .i64 0, .int .i64 0]) (.agg #[.int .i64 1, .int .i64 420, .int .i64 2, .int .i64 2, .int .i64 0, .string ⟨#[]⟩, .int .i64 0, .int .i64 0])).run Tryd.prog w = .ok true w := fun w => (run_eqI 1 420 2 2 0 ⟨#[]⟩ 0 0 1 420 2 2 0 ⟨#[]⟩ 0 0 w).trans (by simp)
  have OIT : Hid (ObjT Tryd.prog 52 8) := ⟨⟨_, Tryd.underlying52⟩, by kernel_rfl⟩
  have ZI : Hid ((Tryd.prog.info? 52).map (·.zero) = some (some (.agg (infL 0 0 0 0 0 ⟨#[]⟩ 0 0).toArray))) := by show _ = _; kernel_rfl
  clear V AM hs1 hs2 g1 p1 vA vB
  go_enter Tryd.func10, Tryd.ntmps10
  go_wp2_with fail
  refine NW.out.mono ?_; rintro e w1 ⟨f, rfl, h1, b1⟩
  have B1 := Lib.hid b1; have H1 := Lib.hid h1
  clear b1 h1
  go_wp2_with fail
  refine (CR.out w1 f _ H1.out B1.out).mono ?_; rintro e w2 ⟨rfl, o2, h2⟩
  have B2 : Hid (Below w.heap.size w w2) := B1.out.trans (o2.below (fun k hk => hk.1) B1.out.size)
  have H2 := Lib.hid h2
  have T2 : Hid (∀ k, Grow (fun k => w.heap.size ≤ k ∧ k < w1.heap.size) w1 w2 k → w.heap.size ≤ k) := fun k hk => hk.elim (fun q => q.1) fun q => Nat.le_trans B1.out.size q.1
  clear o2 h2
  go_wp2_with fail
  refine (LN.out w2 f _ H2.out).mono ?_; rintro e w3 ⟨rfl, o3, h3⟩
  have B3 : Hid (Below w.heap.size w w3) := B2.out.trans (o3.below T2.out B2.out.size)
  have H3 := Lib.hid h3
  clear o3 h3
  go_wp2_with fail
  refine (LA.out w3 f _ H3.out).mono ?_; rintro e w4 ⟨rfl, b4⟩
  have B4 := Lib.hid (belT B3.out b4); have H4 := Lib.hid (H3.out.below b4)
  clear b4
  go_wp2_with (first | (refine wpList_alloc_obj rfl 52 rfl _ ZI.out ?_; intro w5 h5 b5; have I5 := Lib.hid h5; have B5 := Lib.hid (belT B4.out b5); have H5 := Lib.hid (H4.out.below b5); have P5 : Hid (w4.heap.size < w5.heap.size) := h5.lt; clear h5 b5) | (refine wpList_store_obj rfl 52 _ _ rfl w4.heap.size rfl (infL 1 420 2 2 0 ⟨#[]⟩ 0 0) (infL 0 0 0 0 0 ⟨#[]⟩ 0 0) rfl 52 I5.out OIT.out.2 rfl (by simp [Value.oneCell']) ?_; intro w6 g6 t6; have I6 := Lib.hid g6; have B6 := Lib.hid (B5.out.trans (t6.below B4.out.size)); have H6 := Lib.hid (H5.out.turn (tb t6) (fun q => Nat.lt_irrefl _ (H4.out.lt _ q))); clear g6 t6))
  refine (LB.out w6 f _ H6.out).mono ?_; rintro e w7 ⟨rfl, b7⟩
  have B7 := Lib.hid (belT B6.out b7); have I7 := Lib.hid (I6.out.below b7 I6.out.lt)
  clear b7
  go_wp2_with (first | (refine wpList_alloc_obj rfl 52 rfl _ ZI.out ?_; intro w8 h8 b8; have J8 := Lib.hid h8; have B8 := Lib.hid (belT B7.out b8); have I8 := Lib.hid (I7.out.below b8 I7.out.lt); clear h8 b8) | (refine wpList_store_obj rfl 52 _ _ rfl w7.heap.size rfl (infL 1 420 2 2 0 ⟨#[]⟩ 0 0) (infL 0 0 0 0 0 ⟨#[]⟩ 0 0) rfl 52 J8.out OIT.out.2 rfl (by simp [Value.oneCell']) ?_; intro w9 g9 t9; have J9 := Lib.hid g9; have B9 := Lib.hid (B8.out.trans (t9.below B7.out.size)); have I9 := Lib.hid (I8.out.turnB (tb t9) (Nat.ne_of_lt I7.out.lt)); have c0 := I9.out.get 0 rfl; have d0 := J9.out.get 0 rfl; have c1 := I9.out.get 1 rfl; have d1 := J9.out.get 1 rfl; have c2 := I9.out.get 2 rfl; have d2 := J9.out.get 2 rfl; have c3 := I9.out.get 3 rfl; have d3 := J9.out.get 3 rfl; have c4 := I9.out.get 4 rfl; have d4 := J9.out.get 4 rfl; have c5 := I9.out.get 5 rfl; have d5 := J9.out.get 5 rfl; have c6 := I9.out.get 6 rfl; have d6 := J9.out.get 6 rfl; have c7 := I9.out.get 7 rfl; have d7 := J9.out.get 7 rfl; clear g9 t9))
  go_ret
  exact ⟨rfl, B9.out⟩
end Go.Proofs.YthcbiohmghaobaaDoor.Vfs
