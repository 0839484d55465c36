/-
  PathheapSorts.
-/
import Derived.Test.YtjokgiheabmolaaHepLaw5
namespace Go.Proofs.Ytjokgiheabmolaa
open Go.RowKit Hep

namespace Hep
theorem own_swap {w : World} {base n vc b : Nat} {e : TypeId} {zs : List ByteArray} (h : w.ownsRow base e 1 (.slice (some ⟨b, 0, none⟩) n vc) n (ssC zs)) {i j : Nat} (hi : i < n) (hj : j < n) :
    w.cell? ⟨b, i, none⟩ = some (.string (g zs i)) ∧ w.cell? ⟨b, j, none⟩ = some (.string (g zs j)) ∧ (∀ k, w.frozen? ⟨b, k, none⟩ = false) ∧ n ≤ vc ∧
      ((w.setCell ⟨b, i, none⟩ (.string (g zs j))).setCell ⟨b, j, none⟩ (.string (g zs i))).drew.ownsRow base e 1 (.slice (some ⟨b, 0, none⟩) n vc) n (ssC (swl zs i j)) := by
  obtain ⟨a', c', hv, hl, hc, hm, hx, hf⟩ := SsIn.of_own h
  cases hv
  obtain ⟨-, -, -, hf⟩ := hf _ rfl
  have at' : ∀ k, k < n → w.cell? ⟨b, k, none⟩ = some (.string (g zs k)) := fun k hk => by
    rcases hx with hx | ⟨b', o', hb, -, hat⟩
    · rw [hx] at hl; simp at hl; omega
    · cases hb
      have := hat k (g zs k) (by rw [g_get (by omega)]; exact List.getElem?_eq_getElem (by omega))
      rwa [Nat.zero_add] at this
  refine ⟨at' i hi, at' j hj, hf, hc, ?_⟩
  have e : ssC (swl zs i j) = ((ssC zs).set i (.string (g zs j))).set j (.string (g zs i)) := by
    unfold swl ssC
    rw [List.map_set, List.map_set]
  rw [e]
  exact own_set (own_set h _) _
theorem le_nil (x : ByteArray) : Le ⟨#[]⟩ x := by
  unfold Le
  rw [show (⟨#[]⟩ : ByteArray).toList = [] by rw [ByteArray.toList_eq]]
  cases x.toList <;> rfl
theorem fold_mrg {zs ys : List ByteArray} (h : zs.Perm ys) : zs.foldl ins [] = mrg [ys] :=
  sorted_mrg (fold_sorted zs [] List.Pairwise.nil).1 ((fold_sorted zs [] List.Pairwise.nil).2.trans (by simpa using h))
theorem dis_ge {S T : Nat → Prop} {B : Nat} (h : ∀ k, S k → B ≤ k) (h' : ∀ k, T k → k < B) : ∀ k, T k → ¬ S k := fun k ht hs => by have := h k hs; have := h' k ht; omega
end Hep

set_option maxRecDepth 100000 in
set_option maxHeartbeats 8000000 in
theorem walk_PathheapSorts (a : Option Addr) (n cap : Nat) (ys : List ByteArray) (sa : Option Addr) (sl sc : Nat) (ss : List Int) (w : World) (ha : ArgSs w a n cap ys) (hn : n * 16 ≤ 140737488355328) (hs : ArgInts .u8 w sa sl sc ss) :
    Calls Try.prog 5 #[.slice a n cap, .slice sa sl sc] w fun e w' => e = .returned (.bool true) ∧ Below w.heap.size w w' := by
  have HA := Lib.hid ha; have HS := Lib.hid hs
  have HN : Hid (n ≤ 8796093022208) := by show _ ≤ _; omega
  have nb : (n : Int) ≤ 8796093022208 := by omega
  have EL : Hid (ElemV Try.prog 22) := elemV_l (by kernel_rfl)
  have ES : Hid (ElemS Try.prog 9) := elemS (by kernel_rfl)
  clear ha hn hs
  go_enter Try.func5, Try.ntmps5
  go_wp2_with (refine wpList_lit1 rfl 29 22 _ rfl Try.underlying29 EL.out (.slice a n cap) rfl rfl ?_; intro w2 h2 b2; have H2 := Lib.hid h2; have B2 := Lib.hid b2; clear h2 b2)
  refine (size_any _ 1 1 [ys] w2 (ls_one H2.out (HA.out.below B2.out)) (by omega) (fun l hl => by obtain rfl := List.mem_singleton.mp hl; rw [HA.out.n]; exact HN.out)).mono ?_; rintro e w3 ⟨z, rfl, rfl⟩
  by_cases hz : 3000 < z
  · go_wp2_with fail
    refine (alive_any w2).mono ?_; rintro e w3 ⟨rfl, b3⟩
    have B3 := Lib.hid (belT B2.out b3)
    clear b3
    go_wp2_with fail
    go_ret
    exact ⟨rfl, B3.out⟩
  have hz' : z ≤ 3000 := by omega
  by_cases h50 : 50 < sl
  · have h50' : (50 : Int) < sl := by omega
    go_wp2_with fail
    refine (alive_any w2).mono ?_; rintro e w3 ⟨rfl, b3⟩
    have B3 := Lib.hid (belT B2.out b3)
    clear b3
    go_wp2_with fail
    go_ret
    exact ⟨rfl, B3.out⟩
  have h50' : (sl : Int) ≤ 50 := by omega
  go_wp2_with (first | (at_builtin; (have qq := O3.out; clear qq); refine wpList_append_ss rfl _ _ 22 rfl 9 w.heap.size Try.underlying22 ES.out (.slice (some ⟨w2.heap.size, 0, none⟩) 0 0) _ _ rfl O3.out _ _ _ ys rfl (HA.out.below B3.out).r HA.out.n (by have := HN.out; omega) B3.out.size ?_; intro v4 w4 o4 b4 _ _; have O4 := Lib.hid o4; have B4 := Lib.hid (B3.out.trans b4); clear o4 b4) | (refine wpList_lit_ss0 rfl 22 9 rfl Try.underlying22 ES.out ?_; intro w3 o3 b3; have O3 : Hid (w3.ownsRow w.heap.size 9 1 (.slice (some ⟨w2.heap.size, 0, none⟩) 0 0) 0 (ssC [])) := own_base o3 B2.out.size; have B3 : Hid (Below w.heap.size w w3) := belT B2.out b3; clear o3 b3))
  obtain ⟨va, vc, rfl, -⟩ := SsIn.of_own O4.out
  rw [Nat.zero_add] at O4 ⊢
  have O4' : Hid (w4.ownsRow w.heap.size 9 1 (.slice va n vc) n (ssC ys)) := O4.out
  clear O4 O3 B3 H2
  go_wp2_with fail
  go_loopw [36] (fun i wr => ∃ (j : Nat) (zs : List ByteArray), i = .int .i64 j ∧ j ≤ sl ∧ Hid (wr.ownsRow w.heap.size 9 1 (.slice va n vc) n (ssC zs)) ∧ Hid (zs.Perm ys) ∧ Hid (Below w.heap.size w wr)) (fun i _ => sl - (intOf i).toNat)
  case atStart => exact ⟨0, ys, rfl, Nat.zero_le _, O4', List.Perm.refl _, B4⟩
  case round =>
    obtain ⟨j, zs, rfl, hj, OZ, PZ, BW⟩ := hrel
    by_cases hjs : j < sl
    · have j1 : (j : Int) < sl := by omega
      obtain ⟨sb, so, rfl, hsb, hrow⟩ := HS.out.row (by omega)
      have scp := HS.out.2.1
      have j2 : (j : Int) < sc := by omega
      have s50 : (sl : Int) ≤ 50 := h50'
      obtain ⟨s, hsv⟩ : ∃ s, s = ss.getD j 0 := ⟨_, rfl⟩
      have c1 : wr.cell? ⟨sb, so + j, none⟩ = some (.int .u8 s) := by
        rw [hsv]
        exact (World.cell?_of_block (BW.out.block sb hsb)).trans (hrow.1 j (by rw [HS.out.1]; exact hjs))
      have sB : 0 ≤ s ∧ s ≤ 255 := by
        rw [hsv]
        refine hrow.2 _ ?_
        rw [List.getD_eq_getElem?_getD, List.getElem?_eq_getElem (by rw [HS.out.1]; exact hjs)]
        exact List.getElem_mem _
      obtain ⟨s0, s1⟩ := sB
      have JS := Lib.hid hjs
      have BWp : Hid (∀ W, Below w.heap.size wr W → Below w.heap.size w W) := fun W q => BW.out.trans q
      clear hsb hrow scp hj hjs hsv
      by_cases hn0 : n = 0
      · subst hn0
        go_wp2_with fail
        go_round
        case rel => exact ⟨j + 1, zs, by go_num, JS.out, OZ, PZ, BW⟩
        case measure => simp [intOf]; have := JS.out; omega
      · obtain ⟨b, rfl⟩ : ∃ b, va = some ⟨b, 0, none⟩ := by
          obtain ⟨a', c', hv, hl, -, -, hx, hf⟩ := SsIn.of_own OZ.out
          cases hv
          rcases hx with hx | ⟨b', o', rfl, -, -⟩
          · rw [hx] at hl; simp at hl; omega
          · exact ⟨b', by have := (hf _ rfl).2.1; have : o' = 0 := this; subst this; rfl⟩
        have n0 : (0 : Int) < n := by omega
        have n1 : ¬ (n : Int) = 0 := by omega
        have n2 : ((n : Int) == 0) = false := by simpa using n1
        obtain ⟨A, hA⟩ := named (j % n)
        obtain ⟨B, hB⟩ := named (s.toNat % n)
        have eA : (j : Int) % (n : Int) = (A : Int) := by rw [hA.out]; exact (Int.natCast_emod j n).symm
        have eB : s % (n : Int) = (B : Int) := by rw [hB.out, Int.natCast_emod, Int.toNat_of_nonneg s0]
        have eA' : (j : Int).tmod (n : Int) = (A : Int) := by rw [Int.tmod_eq_emod_of_nonneg (by omega)]; exact eA
        have eB' : s.tmod (n : Int) = (B : Int) := by rw [Int.tmod_eq_emod_of_nonneg s0]; exact eB
        have al : A < n := by have := Nat.mod_lt j (show 0 < n by omega); have := hA.out; omega
        have bl : B < n := by have := Nat.mod_lt s.toNat (show 0 < n by omega); have := hB.out; omega
        have a1 : (A : Int) < n := by omega
        have b1 : (B : Int) < n := by omega
        have AL := Lib.hid al
        have BL := Lib.hid bl
        clear hn0 al bl
        have mixed : Try.prog.follows .mixedOrders = true := by kernel_rfl
        go_wp2_with fail
        go_big_region_o
        have OD : wr.drew.ownsRow w.heap.size 9 1 (.slice (some ⟨b, 0, none⟩) n vc) n (ssC zs) := OZ.out
        have BD : Below wr.heap.size wr wr.drew := (Below.refl _ _).drew
        revert OD BD
        generalize wr.drew = wd
        intro OD BD
        obtain ⟨q1', q2', hf, hc, OS⟩ := own_swap OD AL.out BL.out
        have BG : w.heap.size ≤ b := (own_lt OD).1
        obtain ⟨y, hy⟩ := named (g zs A)
        obtain ⟨u, hu⟩ := named (g zs B)
        rw [← hy.out] at q1' OS
        rw [← hu.out] at q2' OS
        have OZ2 := Lib.hid OS
        have q1 : wd.drew.cell? ⟨b, A, none⟩ = some (.string y) := q1'
        have q2 : wd.drew.cell? ⟨b, B, none⟩ = some (.string u) := q2'
        have f1 : wd.drew.frozen? ⟨b, A, none⟩ = false := hf A
        have f2 : wd.drew.frozen? ⟨b, B, none⟩ = false := hf B
        have q3 : (wd.setCell ⟨b, A, none⟩ (.string u)).drew.cell? ⟨b, B, none⟩ = some (.string u) := by
          show (wd.setCell ⟨b, A, none⟩ (.string u)).cell? ⟨b, B, none⟩ = _
          by_cases e : A = B
          · rw [← e]
            exact World.cell?_setCell_same wd _ _ q1'
          · rw [World.cell?_setCell_other (h := fun c => e (Addr.mk.inj c).2.1)]
            exact q2'
        have f3 : (wd.setCell ⟨b, A, none⟩ (.string u)).drew.frozen? ⟨b, B, none⟩ = false := by
          show (wd.setCell ⟨b, A, none⟩ (.string u)).frozen? ⟨b, B, none⟩ = _
          rw [World.frozen?_setCell]
          exact hf B
        have a2 : (A : Int) < vc := by omega
        have b2 : (B : Int) < vc := by omega
        have PS : Hid ((swl zs A B).Perm ys) := by
          have zl : zs.length = n := by have := OZ.out.1; rw [List.length_map] at this; omega
          exact (swl_perm (by rw [zl]; exact AL.out) (by rw [zl]; exact BL.out)).trans PZ.out
        have BS : Hid (Below w.heap.size w ((wd.setCell ⟨b, A, none⟩ (.string u)).setCell ⟨b, B, none⟩ (.string y)).drew) :=
          (((BW.out.trans (BD.mono BW.out.size)).setCell (p := ⟨b, A, none⟩) BG _).setCell (p := ⟨b, B, none⟩) BG _).drew
        clear OS hf hc BD OD BG q1' q2' c1 eA eB eA' eB' hA hB
        go_wp2_with fail
        go_big_region_o
        all_goals go_wp2
        go_round
        case rel => exact ⟨j + 1, _, by go_num, JS.out, OZ2, PS, BS⟩
        case measure => simp [intOf]; have := JS.out; omega
    · obtain rfl : j = sl := by omega
      clear hj hjs
      have SY : ∀ y ∈ zs, y.size ≤ 140737488355328 := fun y hy => HA.out.s y (PZ.out.mem_iff.mp hy)
      obtain ⟨va', vc', hv, ma⟩ := ArgSs.of_own OZ.out SY
      cases hv
      have MA := Lib.hid ma
      obtain ⟨w5, hw5⟩ : ∃ w5, w5 = wr := ⟨wr, rfl⟩
      rw [← hw5] at MA BW ⊢
      have GA := Lib.hid (gnew (HA.out.below BW.out) HN.out)
      obtain ⟨M, hM⟩ := named (mrg [ys])
      rw [← hM.out] at GA
      have FM : Hid (zs.foldl ins [] = M) := by show _ = _; rw [hM.out]; exact fold_mrg PZ.out
      have ML : Hid (M.length = n) := by show _ = _; rw [hM.out, mrg1_len]; exact HA.out.n
      have MS : Hid (M.Pairwise Le) := by show List.Pairwise _ _; rw [hM.out]; exact mrg_sorted _
      clear hw5 ma SY OZ PZ hM B4 O4' h50 h50'
      go_wp2_with fail
      refine GA.out.mono ?_; rintro e w6 ⟨Sa, ga, rfl, qa, sa6, b6⟩
      have QA := Lib.hid qa; have SA := Lib.hid sa6; have B6 := Lib.hid b6
      clear qa sa6 b6 GA
      have GB := Lib.hid (gnew (ArgSs.nil w6) (Nat.zero_le _))
      go_wp2_with fail
      refine GB.out.mono ?_; rintro e w7 ⟨Sb, gb, rfl, qb, sb7, b7⟩
      have QB : Hid (Hq Sb gb w7 ((zs.take 0).foldl ins [])) := qb
      have SB := Lib.hid sb7; have B7 := Lib.hid b7
      clear qb sb7 b7 GB
      go_wp2_with fail
      go_loopw [79] (fun i wr => ∃ (q : Nat) (S : Nat → Prop), i = .int .i64 q ∧ q ≤ n ∧ Hid (Hq S gb wr ((zs.take q).foldl ins [])) ∧ Hid (∀ k, S k → w6.heap.size ≤ k) ∧ Hid (Below w6.heap.size w6 wr)) (fun i _ => n - (intOf i).toNat)
      case atStart => exact ⟨0, Sb, rfl, Nat.zero_le _, QB, SB, B7⟩
      case round =>
        obtain ⟨q, S, rfl, hq, HQ, HSB, BX⟩ := hrel
        have BM : Hid (Below w5.heap.size w5 wr) := belT B6.out BX.out
        by_cases hqn : q < n
        · have q1 : (q : Int) < n := by omega
          obtain ⟨b, off, y, rfl, -, hy, hsz, -, c0⟩ := (MA.out.below BM.out).get q hqn
          have q2 : (q : Int) < vc := by have := MA.out.c; omega
          have QN := Lib.hid hqn
          have TK : Hid ((zs.take (q + 1)).foldl ins [] = [y].foldl ins ((zs.take q).foldl ins [])) := by show _ = _; rw [List.take_add_one, hy, List.foldl_append]; rfl
          have HZ := Lib.hid hsz
          clear hq hqn hy hsz
          go_wp2_with (refine wpList_lit_ss1 rfl 22 9 _ rfl Try.underlying22 ES.out y rfl ?_; intro w8 g8 b8; have G8 := Lib.hid g8; have B8 := Lib.hid b8; clear g8 b8)
          have A8 : ArgSs w8 (some ⟨wr.heap.size, 0, none⟩) 1 1 [y] := ArgSs.of_obj G8.out rfl (by omega) fun u hu => by obtain rfl := List.mem_singleton.mp hu; exact HZ.out
          have LL : ((zs.take q).foldl ins []).length + 1 ≤ 8796093022208 := by
            rw [foldl_len, List.length_take, List.length_nil]
            have := QN.out; have := HN.out; omega
          refine (gpush (HQ.out.below B8.out) A8 (.inr fun x hx c => by injection hx with hx; subst hx; exact absurd (HQ.out.2 _ c) (Nat.lt_irrefl _)) LL).mono ?_; rintro e w9 ⟨rfl, o9, q9⟩
          have Q9 : Hid (Hq (Grow S w8 w9) gb w9 ((zs.take (q + 1)).foldl ins [])) := by show Hq _ _ _ _; rw [TK.out]; exact q9
          have X8 : Hid (Below w6.heap.size w6 w8) := belT BX.out B8.out
          have X9 : Hid (Below w6.heap.size w6 w9) := X8.out.trans (o9.below HSB.out X8.out.size)
          have S9 : Hid (∀ k, Grow S w8 w9 k → w6.heap.size ≤ k) := fun k hk => Or.elim hk (HSB.out k) fun c => Nat.le_trans X8.out.size c.1
          clear o9 q9 A8 LL
          go_wp2_with fail
          go_round
          case rel => exact ⟨q + 1, _, by go_num, QN.out, Q9, S9, X9⟩
          case measure => simp [intOf]; have := QN.out; omega
        · obtain rfl : q = n := by omega
          have QF : Hid (Hq S gb wr M) := by
            have e := HQ.out
            rw [List.take_of_length_le (by rw [MA.out.n]; exact Nat.le_refl _), FM.out] at e
            exact e
          have QAX : Hid (Hq Sa ga wr M) := QA.out.only (T := fun k => w6.heap.size ≤ k) ⟨BX.out.os, BX.out.tape, BX.out.output, BX.out.size, fun k _ hj => BX.out.block k (by omega)⟩ fun k hk c => absurd (QA.out.2 k hk) (Nat.not_lt.mpr c)
          have DJ : Hid (∀ k, Sa k → ¬ S k) := fun k hk c => absurd (QA.out.2 k hk) (Nat.not_lt.mpr (HSB.out k c))
          have W5 := BW.out.size
          have SA' : Hid (∀ k, Sa k → w.heap.size ≤ k) := fun k hk => Nat.le_trans W5 (SA.out k hk)
          have SB' : Hid (∀ k, S k → w.heap.size ≤ k) := fun k hk => Nat.le_trans (Nat.le_trans W5 B6.out.size) (HSB.out k hk)
          have BF : Hid (Below w.heap.size w wr) := belT BW.out BM.out
          clear hq hqn HQ HSB SB SA QA QB W5
          go_wp2_with fail
          go_loopw [90, 14] (fun i v wr => ∃ (p : Nat) (Ta Tb : Nat → Prop) (la : ByteArray), i = .int .i64 p ∧ v = .string la ∧ p ≤ q ∧ Hid (Hq Ta ga wr (M.drop p)) ∧ Hid (Hq Tb gb wr (M.drop p)) ∧ Hid (∀ k, Ta k → ¬ Tb k) ∧ Hid (∀ k, Ta k → w.heap.size ≤ k) ∧ Hid (∀ k, Tb k → w.heap.size ≤ k) ∧ Hid (∀ x ∈ M.drop p, Le la x) ∧ Hid (Below w.heap.size w wr)) (fun i _ _ => q - (intOf i).toNat)
          case atStart => exact ⟨0, Sa, S, ⟨#[]⟩, rfl, rfl, Nat.zero_le _, QAX, QF, DJ, SA', SB', fun x _ => le_nil x, BF⟩
          case round =>
            obtain ⟨p, Ta, Tb, la, rfl, rfl, hp, HQA, HQB, HD, HTA, HTB, HL, BY⟩ := hrel
            by_cases hpq : p < q
            · have p1 : (p : Int) < q := by omega
              obtain ⟨x, r, hxr⟩ : ∃ x r, M.drop p = x :: r := ⟨_, _, List.drop_eq_getElem_cons (by rw [ML.out]; exact hpq)⟩
              have DR : Hid (M.drop (p + 1) = r) := by show _ = _; rw [← drop_tail, hxr]; rfl
              have PX : Hid ((x :: r).Pairwise Le) := by show List.Pairwise _ _; rw [← hxr]; exact MS.out.sublist (List.drop_sublist _ _)
              have RL : r.length < 8796093022208 := by
                have := congrArg List.length hxr
                rw [List.length_drop, ML.out, List.length_cons] at this
                have := HN.out; omega
              have LX : Op.bytesLess x.toList la.toList = false := HL.out x (by rw [hxr]; exact List.mem_cons_self)
              have LR : Hid (∀ y ∈ M.drop (p + 1), Le x y) := by
                show ∀ y ∈ _, _
                rw [DR.out]
                exact (List.pairwise_cons.mp PX.out).1
              rw [hxr] at HQA HQB
              have PA := Lib.hid (gpop HQA.out RL)
              have PQ := Lib.hid hpq
              have RLh := Lib.hid RL
              clear hp hpq hxr HL RL
              go_wp2_with fail
              refine PA.out.mono ?_; rintro e v1 ⟨rfl, oa, qa⟩
              have QA1 : Hid (Hq (Grow Ta wr v1) ga v1 (M.drop (p + 1))) := by show Hq _ _ _ _; rw [DR.out]; exact qa
              have QB1 : Hid (Hq Tb gb v1 (x :: r)) := HQB.out.only oa fun k hk c => HD.out k c hk
              have D1 : Hid (∀ k, Grow Ta wr v1 k → ¬ Tb k) := fun k hk c => Or.elim hk (fun u => HD.out k u c) fun u => absurd (HQB.out.2 k c) (Nat.not_lt.mpr u.1)
              have A1 : Hid (∀ k, Grow Ta wr v1 k → w.heap.size ≤ k) := fun k hk => Or.elim hk (HTA.out k) fun u => Nat.le_trans BY.out.size u.1
              have B1 : Hid (Below w.heap.size w v1) := BY.out.trans (oa.below HTA.out BY.out.size)
              have PB := Lib.hid (gpop QB1.out RLh.out)
              clear oa qa PA HD HTA
              go_wp2_with fail
              refine PB.out.mono ?_; rintro e v2 ⟨rfl, ob, qb⟩
              have QB2 : Hid (Hq (Grow Tb v1 v2) gb v2 (M.drop (p + 1))) := by show Hq _ _ _ _; rw [DR.out]; exact qb
              have QA2 : Hid (Hq (Grow Ta wr v1) ga v2 (M.drop (p + 1))) := QA1.out.only ob fun k hk c => D1.out k hk c
              have D2 : Hid (∀ k, Grow Ta wr v1 k → ¬ Grow Tb v1 v2 k) := fun k hk c => Or.elim c (fun u => D1.out k hk u) fun u => absurd (QA1.out.2 k hk) (Nat.not_lt.mpr u.1)
              have A2 : Hid (∀ k, Grow Tb v1 v2 k → w.heap.size ≤ k) := fun k hk => Or.elim hk (HTB.out k) fun u => Nat.le_trans B1.out.size u.1
              have B2' : Hid (Below w.heap.size w v2) := B1.out.trans (ob.below HTB.out B1.out.size)
              clear ob qb PB
              go_wp2_with fail
              go_round
              case rel => exact ⟨p + 1, _, _, x, by go_num, rfl, PQ.out, QA2, QB2, D2, A1, A2, LR, B2'⟩
              case measure => simp [intOf]; have := PQ.out; omega
            · obtain rfl : p = q := by omega
              have QA0 : Hid (Hq Ta ga wr []) := by
                have e := HQA.out
                rw [List.drop_eq_nil_of_le (by rw [ML.out]; exact Nat.le_refl _)] at e
                exact e
              have QB0 : Hid (Hq Tb gb wr []) := by
                have e := HQB.out
                rw [List.drop_eq_nil_of_le (by rw [ML.out]; exact Nat.le_refl _)] at e
                exact e
              have PA := Lib.hid (gpop_none QA0.out.1)
              clear hp hpq HQA HQB
              go_wp2_with fail
              refine PA.out.mono ?_; rintro e v1 ⟨rfl, rfl⟩
              go_wp2_with fail
              refine (alive_any wr).mono ?_; rintro e v1 ⟨rfl, bv⟩
              have BV := Lib.hid (belT BY.out bv)
              have GL := Lib.hid (glen (QB0.out.below bv).1)
              clear bv PA
              go_wp2_with fail
              refine GL.out.mono ?_; rintro e v2 ⟨rfl, rfl⟩
              go_wp2_with fail
              go_ret
              exact ⟨rfl, BV.out⟩
end Go.Proofs.Ytjokgiheabmolaa
