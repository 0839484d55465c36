/-
  Layer 19: the walk of VfsLinksShareFiles. (gen_VfsW2.py writes it.)
-/
import Derived.Test.YthcbiohmghaobaaDoorPz10
import Derived.Test.YthcbiohmghaobaaDoorPz11
namespace Go.Proofs.YthcbiohmghaobaaDoor
open Go.RowKit Go.MapKept Go.Proofs.YthcbiohmghaobaaDoor.Pnm Flt Vfs

theorem Vfs.ownB' {a : Option Addr} {n c k : Nat} (h : (Value.slice a n c).ownBlock = some k) : ∃ x, a = some x ∧ x.block = k := by
  cases a with
  | none => cases h
  | some x => exact ⟨x, rfl, Option.some.inj h⟩
theorem Vfs.fs_set {N : Nat} {F S : Int} {R : List Int} {T : Nat → Prop} {w : World} {f g j : Nat} {s : St} {v : Value} (h : FsS N F S R T w f s) (hg : ¬ T g) : FsS N F S R T (w.setCell ⟨g, j, none⟩ v) f s :=
  h.only (U := fun k => k = g) ((Only.refl (fun k => k = g) w).setCell (p := ⟨g, j, none⟩) (.inl rfl) v) fun k hk e => hg (by rw [← e]; exact hk)
set_option maxRecDepth 100000 in
set_option maxHeartbeats 16000000 in
theorem walk_VfsLinksShareFiles (n : Int) (a : Option Addr) (len cap : Nat) (zs : List Int) (uid : Int) (w : World) (V : Pxr.Vars w) (hn : (Lit.int .u8 n).wf = true) (hz : ArgInts .u8 w a len cap zs) (_ : (Lit.int .i64 uid).wf = true) :
    Calls Tryd.prog 6 #[.int .u8 n, .slice a len cap, .int .i64 uid] w fun e w' => e = .returned (.bool true) ∧ Below w.heap.size w w' := by
  have hn0 := bounds_u8 hn
  obtain ⟨k, hk⟩ : ∃ k : Nat, n % 20 = (k : Int) := ⟨(n % 20).toNat, by omega⟩
  have k19 : k ≤ 19 := by omega
  have HL : Hid (zs.length = len) := hz.1
  have HZ := Lib.hid hz.bytes; have HB := Lib.hid hz.bytes.bytes
  have hcap := hz.2.1
  have AL := Lib.hid fun w' (hb : Below w.heap.size w w') => alive_any w' (V.go hb)
  have VV := Lib.hid fun w' (hb : Below w.heap.size w w') => V.go hb
  have OP := Lib.hid (opts_any 0 0 (by omega) (by omega) none 0 0 [] w (.inl rfl) rfl (Nat.le_refl 0) (fun _ h => by cases h) (by omega))
  have OIT : Hid (ObjT Tryd.prog 52 8) := ⟨⟨_, Tryd.underlying52⟩, by kernel_rfl⟩
  have ZI : Hid ((Tryd.prog.info? 52).map (·.zero) = some (some (.agg (infL 0 0 0 0 0 ⟨#[]⟩ 0 0).toArray))) := by show _ = _; kernel_rfl
  have HE := Lib.hid u8T
  have E1 : Hid ((Tryd.prog.info? 5).map (·.size) = some 1) := by show _ = _; obtain ⟨i, h1, _, h2, _⟩ := u8T; simp [h1, h2]
  clear hn hz V
  go_enter Tryd.func6, Tryd.ntmps6
  go_wp2_with fail
  rw [hk]
  refine OP.out.mono ?_; rintro e w1 ⟨oa, oc, rfl, io, b1⟩
  have B1 := Lib.hid b1
  have NW := Lib.hid (new_good 2000 (by omega) 1 1 oa 0 oc [] w1 io rfl (by omega) (by decide))
  clear b1 io OP hn0 hk
  go_wp2_with fail
  refine NW.out.mono ?_; rintro e w2 ⟨f, rfl, h2, b2⟩
  have B2 := Lib.hid (belT B1.out b2); have H2 := Lib.hid h2
  have Z12 := Lib.hid b2.size
  clear b2 h2 NW
  by_cases hbig : 1000 < len
  · have hbig' : (len : Int) > 1000 := by omega
    go_wp2_with fail
    refine (AL.out w2 B2.out).mono ?_; rintro e w3 ⟨rfl, b3⟩
    have B3 := Lib.hid (belT B2.out b3)
    clear b3
    go_wp2_with fail
    go_ret
    exact ⟨rfl, B3.out⟩
  have hs' : ¬ (len : Int) > 1000 := by omega
  have HS := Lib.hid (show len ≤ 1000 by omega)
  go_wp2_with (first | (refine wpList_lit_k rfl 24 5 .u8 rfl Tryd.underlying24 E1.out ?_; intro w3 h3 b3; have O3 := Lib.hid h3; have B3 := Lib.hid b3; clear h3 b3) | (at_builtin; refine wpList_append_k rfl _ _ 24 rfl w2.heap.size 5 .u8 1 Tryd.underlying24 HE.out (.slice (some ⟨w2.heap.size, 0, none⟩) 0 0) 0 [] rfl O3.out a len cap zs rfl (HZ.out.inK.below (belT B2.out B3.out)) HL.out (by have := HS.out; unfold maxLen; omega) (by have := HS.out; omega) B3.out.size ?_; intro v4 w4 h4 b4; rw [Nat.zero_add, List.nil_append] at h4; have O4 := Lib.hid h4; have B24 : Hid (Below w2.heap.size w2 w4) := B3.out.trans b4; have B4 := Lib.hid (belT B2.out B24.out); clear h4 b4))
  have OX := own_any O4.out
  obtain ⟨ob, ocp, rfl, oin, ocp1, ocp2, _, oaddr⟩ := OX
  have OI := Lib.hid oin; have OA := Lib.hid oaddr; have OC := Lib.hid (show len ≤ ocp ∧ ocp ≤ maxLen from ⟨ocp1, ocp2⟩)
  have H4 := Lib.hid (H2.out.below B24.out)
  have LS0 := Lib.hid (ls_first 2000 (by omega) zs (by rw [HL.out]; omega))
  have CR := fcreate_any H4.out (gd0 2000 1 1 (by omega)) (by show 1 < 2000; omega) (by omega) (VV.out w4 B4.out) (pn 0) (by decide) 420 zs ob ocp (OI.out.bytes HB.out) (by rw [HL.out]; omega) (.inr fun x hx e => by have := (OA.out x hx).1; have := H2.out.me; rw [← e] at this; have := this.2; omega)
  rw [LS0.out.1, HL.out] at CR
  have CR := Lib.hid CR
  clear oin ocp1 ocp2 oaddr
  refine CR.out.mono ?_; rintro e w5 ⟨rfl, o5, h5⟩
  obtain ⟨s5, hs5⟩ := named (mkS 1 1 (st0 1) 1 (pn 0) 420 zs emp)
  rw [← hs5.out] at h5 LS0
  obtain ⟨T5, hT5⟩ : ∃ T, T = Grow (fun k => w1.heap.size ≤ k ∧ k < w2.heap.size) w4 w5 := ⟨_, rfl⟩
  rw [← hT5] at h5
  have H5 := Lib.hid h5
  have O5 : Hid (w5.ownsRow w2.heap.size 5 1 (.slice ob len ocp) len (zs.map (.int .u8))) := own_keepS O4.out fun g hg hl => o5.block g hl fun q => by
    obtain ⟨x, hx, rfl⟩ := ownB' hg
    have := (OA.out x hx).1; omega
  have NT : Hid (∀ x, ob = some x → ¬ T5 x.block) := fun x hx q => by
    rw [hT5] at q
    have := OA.out x hx
    rcases q with q | q
    · omega
    · omega
  have B5 : Hid (Below w.heap.size w w5) := B4.out.trans (o5.below (fun q hq => Nat.le_trans B1.out.size hq.1) B4.out.size)
  have T5B : Hid (∀ q, T5 q → w.heap.size ≤ q) := fun q hq => by
    rw [hT5] at hq
    rcases hq with hq | hq
    · exact Nat.le_trans B1.out.size hq.1
    · exact Nat.le_trans B4.out.size hq.1
  have L5 := Lib.hid LS0.out.2
  have OAB : Hid (∀ x, ob = some x → w.heap.size ≤ x.block) := fun x hx => Nat.le_trans B2.out.size (OA.out x hx).1
  clear o5 h5 CR LS0 O4 OI OA H4 H2 hT5 hs5
  go_wp2_with fail
  go_loopw [11, 51] (fun _ i wr => ∃ (j : Nat) (ys : List Int), j ≤ len ∧ i = .int .i64 j ∧ ys.length = len ∧ wr.ownsRow w2.heap.size 5 1 (.slice ob len ocp) len (ys.map (.int .u8)) ∧ FsS 2000 1 1 [] T5 wr f s5 ∧ Below w.heap.size w wr) (fun _ i _ => len - (intOf i).toNat)
  case atStart => exact ⟨0, zs, Nat.zero_le _, rfl, HL.out, O5.out, H5.out, B5.out⟩
  case round =>
    obtain ⟨j, ys, hj, rfl, hyl, hown, hf, hbel⟩ := hrel
    have YL := Lib.hid hyl; have OW := Lib.hid hown; have HF := Lib.hid hf; have BR := Lib.hid hbel
    clear hyl hown hf hbel O5 H5 B5
    by_cases hlt : j < len
    · obtain ⟨g, cap', hv, hbg⟩ := own_shape OW.out (by omega)
      simp only [Value.slice.injEq, true_and] at hv
      obtain ⟨rfl, rfl⟩ := hv
      obtain ⟨d, hd⟩ := named (ys.getD j 0)
      obtain ⟨v, hv⟩ := xor_bd d
      have hxor := hv.out.1
      have hcell : wr.cell? ⟨g, j, none⟩ = some (.int .u8 d) := by
        rw [OW.out.cellAt j (by omega), List.getElem?_map, List.getElem?_eq_getElem (by rw [YL.out]; exact hlt), hd.out, List.getD_eq_getElem?_getD, List.getElem?_eq_getElem (by rw [YL.out]; exact hlt)]; rfl
      have hfz := OW.out.frozenAt j
      have hlt' : (j : Int) < len := by omega
      have hoc : (j : Int) < ocp := by have := OC.out.1; omega
      have N5 := Lib.hid (NT.out _ rfl); have GB := Lib.hid (OAB.out _ rfl)
      go_wp2
      go_roundw
      case rel => exact ⟨j + 1, ys.set j v, by omega, by go_num, by rw [List.length_set]; exact YL.out, own_store OW.out j v, fs_set HF.out N5.out, BR.out.setCell (p := ⟨g, j, none⟩) GB.out _⟩
      case measure => simp [intOf]; omega
    · obtain rfl : len = j := by omega
      clear OW YL hlt OAB NT
      go_wp2_with fail
      go_loopw [12, 62] (fun l i wr => ∃ (q : Nat) (s : St) (T : Nat → Prop), q ≤ k ∧ l = .string (pn q) ∧ i = .int .i64 q ∧ FsS 2000 1 1 [] T wr f s ∧ Ls 2000 s q zs ∧ (∀ x, T x → w.heap.size ≤ x) ∧ Below w.heap.size w wr) (fun _ i _ => k - (intOf i).toNat)
      case atStart => exact ⟨0, s5, T5, Nat.zero_le _, rfl, rfl, HF.out, L5.out, T5B.out, BR.out⟩
      case round =>
        clear HF BR L5 T5B
        obtain ⟨q, s, T, hq, rfl, rfl, hf, hls, hT, hbel⟩ := hrel
        have HF := Lib.hid hf; have LSQ := Lib.hid hls; have HT := Lib.hid hT; have BR := Lib.hid hbel
        clear hf hls hT hbel
        have sz : ((pn q).size : Int) ≤ 100 := by rw [pn_size]; omega
        by_cases hlq : q < k
        · have hlq' : (q : Int) < k := by omega
          obtain ⟨e1, l2⟩ := LSQ.out.step (by omega) (by omega)
          have lps : s.ps.length < 2000 := by rw [LSQ.out.p]; simp; omega
          have LK := link_any HF.out LSQ.out.gd lps (by omega) (pn (q + 1)) (pn q) (by rw [pn_size]; unfold maxLen; omega)
          rw [e1] at LK
          have LK : Hid (Calls Tryd.prog 26 #[.pointer (some ⟨f, 0, none⟩), .string (pn q ++ ⟨#[120]⟩), .string (pn q)] wr (RetFs 2000 1 1 [] T wr f 0 (lnkS s (pn (q + 1)) (pn q)))) := LK
          have L2 := Lib.hid l2
          clear e1 l2 lps
          go_wp2_with fail
          refine LK.out.mono ?_; rintro e w7 ⟨rfl, o7, h7⟩
          have H7 := Lib.hid h7
          have B7 : Hid (Below w.heap.size w w7) := BR.out.trans (o7.below HT.out BR.out.size)
          have T7 : Hid (∀ x, Grow T wr w7 x → w.heap.size ≤ x) := fun x hx => hx.elim (HT.out x) fun c => Nat.le_trans BR.out.size c.1
          clear h7 o7
          go_wp2_with fail
          go_roundw
          case rel => exact ⟨q + 1, _, _, by omega, rfl, by go_num, H7.out, L2.out, T7.out, B7.out⟩
          case measure => simp [intOf]; omega
        · obtain rfl : q = k := by omega
          have f1 := LSQ.out.fnd (Nat.le_refl q); have f0 := LSQ.out.fnd (Nat.zero_le q)
          have e1 : chE' s (pn q) = 0 := by unfold chE'; rw [f1]
          have CH := chown_any HF.out (pn q) uid 7
          rw [e1] at CH
          have CH := Lib.hid CH
          obtain ⟨K, hK⟩ := named (q : Int); obtain ⟨L, hL⟩ := named zs.length
          obtain ⟨s', hs'⟩ := named (chS s (pn q) uid 7)
          have es : s' = setI s 1 { s.at 1 with u := uid, mt := 7 } := by rw [hs'.out]; exact chS_of f1
          have hps : s'.ps = s.ps := by rw [es]; rfl
          have hat : s'.at 1 = ⟨1, 420, 2, 1 + (q : Int), zs, emp, uid, 7, []⟩ := by rw [es, at_set (by rw [LSQ.out.n]; omega), LSQ.out.a]
          have st : ∀ p, fnd s.ps p = some 1 → stV s' p = infL 1 420 2 (K + 1) (L : Int) ⟨#[]⟩ uid 7 ∧ chE' s' p = 0 ∧ rdE s' p = 0 ∧ rdD s' p = zs := fun p hp => by
            unfold stV chE' rdE rdD
            rw [hps, hp]
            dsimp only
            rw [hat, hK.out, hL.out, Int.add_comm]
            exact ⟨rfl, rfl, rfl, rfl⟩
          have ST0 := Lib.hid (st _ f0); have ST1 := Lib.hid (st _ f1)
          have LSA : Hid (∀ w' T, FsS 2000 1 1 [] T w' f s' → Calls Tryd.prog 20 #[.pointer (some ⟨f, 0, none⟩), .string ⟨#[102]⟩] w' fun e w'' => e = .returned (.tuple #[(.agg #[.int .i64 1, .int .i64 420, .int .i64 2, .int .i64 (K + 1), .int .i64 (L : Int), .string ⟨#[]⟩, .int .i64 uid, .int .i64 7]), .int .i64 0]) ∧ Below w'.heap.size w' w'') := fun w' T h => by
            have := lstat_any h (pn 0)
            rw [ST0.out.1, ST0.out.2.1] at this
            exact this
          have LSB : Hid (∀ w' T, FsS 2000 1 1 [] T w' f s' → Calls Tryd.prog 20 #[.pointer (some ⟨f, 0, none⟩), .string (pn q)] w' fun e w'' => e = .returned (.tuple #[(.agg #[.int .i64 1, .int .i64 420, .int .i64 2, .int .i64 (K + 1), .int .i64 (L : Int), .string ⟨#[]⟩, .int .i64 uid, .int .i64 7]), .int .i64 0]) ∧ Below w'.heap.size w' w'') := fun w' T h => by
            have := lstat_any h (pn q)
            rw [ST1.out.1, ST1.out.2.1] at this
            exact this
          have RDA : Hid (∀ w' T, FsS 2000 1 1 [] T w' f s' → Calls Tryd.prog 21 #[.pointer (some ⟨f, 0, none⟩), .string ⟨#[102]⟩] w' fun e w'' => ∃ v, e = .returned (.tuple #[v, .int .i64 0]) ∧ w''.ownsRow w'.heap.size 5 1 v L (zs.map (.int .u8)) ∧ Below w'.heap.size w' w'') := fun w' T h => by
            have := read_any h (pn 0)
            rw [ST0.out.2.2.1, ST0.out.2.2.2, ← hL.out] at this
            exact this
          have RDB : Hid (∀ w' T, FsS 2000 1 1 [] T w' f s' → Calls Tryd.prog 21 #[.pointer (some ⟨f, 0, none⟩), .string (pn q)] w' fun e w'' => ∃ v, e = .returned (.tuple #[v, .int .i64 0]) ∧ w''.ownsRow w'.heap.size 5 1 v L (zs.map (.int .u8)) ∧ Below w'.heap.size w' w'') := fun w' T h => by
            have := read_any h (pn q)
            rw [ST1.out.2.2.1, ST1.out.2.2.2, ← hL.out] at this
            exact this
          have hq : ∀ w : World, (Op.equalIn 10000 52 (.agg #[.int .i64 1, .int .i64 420, .int .i64 2, .int .i64 (K + 1), .int .i64 (L : Int), .string ⟨#[]⟩, .int .i64 uid, .int .i64 7]) (.agg #[.int .i64 1, .int .i64 420, .int .i64 2, .int .i64 (K + 1), .int .i64 (L : Int), .string ⟨#[]⟩, .int .i64 uid, .int .i64 7])).run Tryd.prog w = .ok true w := fun w => (run_eqI 1 420 2 (K + 1) L ⟨#[]⟩ uid 7 1 420 2 (K + 1) L ⟨#[]⟩ uid 7 w).trans (by simp)
          have LL : Hid (L = len) := by show _ = _; rw [hL.out, HL.out]
          rw [← hs'.out] at CH
          have KQ := Lib.hid hK.out
          have kw : IntKind.i64.wrap (K + 1) = K + 1 := wrapP (by rw [hK.out]; omega) (by rw [hK.out]; omega)
          clear f1 f0 e1 st hat hps es hs' ST0 ST1 LSQ hlq hL
          go_wp2_with fail
          rw [← hK.out]
          clear hK
          refine CH.out.mono ?_; rintro e w8 ⟨rfl, o8, h8⟩
          obtain ⟨T8, hT8⟩ : ∃ T8, T8 = Grow T wr w8 := ⟨_, rfl⟩
          rw [← hT8] at h8
          have H8 := Lib.hid h8
          have B8 : Hid (Below w.heap.size w w8) := BR.out.trans (o8.below HT.out BR.out.size)
          clear h8 o8 CH HF BR hT8
          go_wp2_with fail
          refine (LSA.out w8 _ H8.out).mono ?_; rintro e w9 ⟨rfl, b9⟩
          have B9 := Lib.hid (belT B8.out b9); have H9 := Lib.hid (H8.out.below b9)
          clear b9 LSA
          go_wp2_with (first | (refine wpList_alloc_obj rfl 52 rfl _ ZI.out ?_; intro w10 h10 b10; have I10 := Lib.hid h10; have B10 := Lib.hid (belT B9.out b10); have H10 := Lib.hid (H9.out.below b10); clear h10 b10) | (refine wpList_store_obj rfl 52 _ _ rfl w9.heap.size rfl (infL 1 420 2 (K + 1) (L : Int) ⟨#[]⟩ uid 7) (infL 0 0 0 0 0 ⟨#[]⟩ 0 0) rfl 52 I10.out OIT.out.2 rfl (by simp [Value.oneCell']) ?_; intro w11 g11 t11; have I11 := Lib.hid g11; have B11 := Lib.hid (B10.out.trans (t11.below B9.out.size)); have H11 := Lib.hid (H10.out.turn (tb t11) (fun q => Nat.lt_irrefl _ (H9.out.lt _ q))); clear g11 t11))
          refine (LSB.out w11 _ H11.out).mono ?_; rintro e w12 ⟨rfl, b12⟩
          have B12 := Lib.hid (belT B11.out b12); have I12 := Lib.hid (I11.out.below b12 I11.out.lt); have H12 := Lib.hid (H11.out.below b12)
          clear b12 LSB
          go_wp2_with (first | (refine wpList_alloc_obj rfl 52 rfl _ ZI.out ?_; intro w13 h13 b13; have J12 := Lib.hid h13; have B13 := Lib.hid (belT B12.out b13); have H13 := Lib.hid (H12.out.below b13); have I12b := Lib.hid (I12.out.below b13 I12.out.lt); clear h13 b13) | (refine wpList_store_obj rfl 52 _ _ rfl w12.heap.size rfl (infL 1 420 2 (K + 1) (L : Int) ⟨#[]⟩ uid 7) (infL 0 0 0 0 0 ⟨#[]⟩ 0 0) rfl 52 J12.out OIT.out.2 rfl (by simp [Value.oneCell']) ?_; intro w14 g14 t14; have J14 := Lib.hid g14; have B14 := Lib.hid (B13.out.trans (t14.below B12.out.size)); have H14 := Lib.hid (H13.out.turn (tb t14) (fun q => Nat.lt_irrefl _ (H12.out.lt _ q))); have I14 := Lib.hid (I12b.out.turnB (tb t14) (Nat.ne_of_lt I12.out.lt)); clear g14 t14))
          refine (RDB.out w14 _ H14.out).mono ?_; rintro e w15 ⟨v15, rfl, o15, b15⟩
          have B15 := Lib.hid (belT B14.out b15); have I15 := Lib.hid (I14.out.below b15 I14.out.lt); have J15 := Lib.hid (J14.out.below b15 J14.out.lt); have H15 := Lib.hid (H14.out.below b15)
          have Z14 := Lib.hid (show w9.heap.size < w14.heap.size ∧ w12.heap.size < w14.heap.size from ⟨I14.out.lt, J14.out.lt⟩)
          have HT14 := Lib.hid H14.out.lt
          have ZW : Hid (w.heap.size ≤ w14.heap.size) := B14.out.size
          clear b15 RDB I14 J14 H14 B14
          have OX := own_any o15
          obtain ⟨xb, xc, rfl, xin, xc1, xc2, _, xad⟩ := OX
          have O15 := Lib.hid o15; have XA := Lib.hid xad; have XC := Lib.hid xc1
          clear o15 xin xc1 xc2 xad
          have nl : (L : Int) ≤ 1000 := by rw [LL.out]; have := HS.out; omega
          go_wp2_with fail
          go_loopw [19, 97] (fun _ i wr => ∃ (j : Nat) (ys : List Int), j ≤ L ∧ i = .int .i64 j ∧ ys.length = L ∧ wr.ownsRow w14.heap.size 5 1 (.slice xb L xc) L (ys.map (.int .u8)) ∧ ObjAt wr w9.heap.size 52 (infL 1 420 2 (K + 1) (L : Int) ⟨#[]⟩ uid 7) ∧ ObjAt wr w12.heap.size 52 (infL 1 420 2 (K + 1) (L : Int) ⟨#[]⟩ uid 7) ∧ FsS 2000 1 1 [] T8 wr f s' ∧ Below w.heap.size w wr) (fun _ i _ => L - (intOf i).toNat)
          case atStart => exact ⟨0, zs, Nat.zero_le _, rfl, by rw [HL.out, LL.out], O15.out, I15.out, J15.out, H15.out, B15.out⟩
          case round =>
            clear O15 I15 J15 H15 B15
            obtain ⟨j, ys, hj, rfl, hyl, hown, hI, hJ, hf, hbel⟩ := hrel
            have YL := Lib.hid hyl; have OW := Lib.hid hown; have HF := Lib.hid hf; have BR := Lib.hid hbel; have HI := Lib.hid hI; have HJ := Lib.hid hJ
            clear hyl hown hf hbel hI hJ
            by_cases hlt : j < L
            · obtain ⟨g, cap', hv, hbg⟩ := own_shape OW.out (by omega)
              simp only [Value.slice.injEq, true_and] at hv
              obtain ⟨rfl, rfl⟩ := hv
              obtain ⟨d, hd⟩ := named (ys.getD j 0)
              obtain ⟨v, hv⟩ := xor_bd d
              have hxor := hv.out.1
              have hcell : wr.cell? ⟨g, j, none⟩ = some (.int .u8 d) := by
                rw [OW.out.cellAt j (by omega), List.getElem?_map, List.getElem?_eq_getElem (by rw [YL.out]; exact hlt), hd.out, List.getD_eq_getElem?_getD, List.getElem?_eq_getElem (by rw [YL.out]; exact hlt)]; rfl
              have hfz := OW.out.frozenAt j
              have hlt' : (j : Int) < L := by omega
              have hoc : (j : Int) < xc := by have := XC.out; omega
              have GE := Lib.hid (show w14.heap.size ≤ g from (XA.out _ rfl).1)
              go_wp2
              go_roundw
              case rel =>
                have z := Z14.out; have ge := GE.out; have zb := ZW.out
                have tt : TurnB wr (wr.setCell ⟨g, j, none⟩ (.int .u8 v)) g := ⟨fun hB => (Below.refl _ _).setCell (p := ⟨g, j, none⟩) hB _, fun hk => Below.heap_setCell _ _ _ _ hk, by simp [World.setCell]⟩
                exact ⟨j + 1, ys.set j v, by omega, by go_num, by rw [List.length_set]; exact YL.out, own_store OW.out j v, HI.out.turnB tt (by omega), HJ.out.turnB tt (by omega), HF.out.turn tt (fun q => by have := HT14.out _ q; omega), BR.out.setCell (p := ⟨g, j, none⟩) (by show w.heap.size ≤ g; omega) _⟩
              case measure => simp [intOf]; omega
            · obtain rfl : j = L := by omega
              clear OW YL hlt XA
              go_wp2_with fail
              refine (RDA.out wr _ HF.out).mono ?_; rintro e w17 ⟨v17, rfl, o17, b17⟩
              have B17 := Lib.hid (belT BR.out b17); have I17 := Lib.hid (HI.out.below b17 HI.out.lt); have J17 := Lib.hid (HJ.out.below b17 HJ.out.lt)
              have OX := own_any o17
              obtain ⟨yb, yc, rfl, yin, yc1, yc2, _, yad⟩ := OX
              have YI := Lib.hid yin; have YC := Lib.hid yc1
              clear o17 yin yc1 yc2 yad b17 HI HJ HF BR RDA
              go_wp2_with fail
              refine (AL.out w17 B17.out).mono ?_; rintro e w18 ⟨rfl, b18⟩
              have B18 := Lib.hid (belT B17.out b18); have I13 := Lib.hid (I17.out.below b18 I17.out.lt); have J13 := Lib.hid (J17.out.below b18 J17.out.lt)
              obtain ⟨SZ, hSZ⟩ := named (strOfNums zs)
              have cv1 : (convert 24 9 (.slice yb j yc)).run Tryd.prog w18 = .ok (.string SZ) w18 := by
                rw [hSZ.out]
                exact run_str_in Tryd.underlying24 Tryd.underlying5 Tryd.underlying9 (((YI.out.bytes HB.out).below b18)) j yc (by rw [HL.out, LL.out])
              have cv2 : (convert 24 9 (.slice a len cap)).run Tryd.prog w18 = .ok (.string SZ) w18 := by
                rw [hSZ.out]
                exact run_str_in Tryd.underlying24 Tryd.underlying5 Tryd.underlying9 (HZ.out.below B18.out) len cap HL.out
              have c0 := I13.out.get 0 rfl; have d0 := J13.out.get 0 rfl; have c1 := I13.out.get 1 rfl; have d1 := J13.out.get 1 rfl; have c2 := I13.out.get 2 rfl; have d2 := J13.out.get 2 rfl; have c3 := I13.out.get 3 rfl; have d3 := J13.out.get 3 rfl; have c4 := I13.out.get 4 rfl; have d4 := J13.out.get 4 rfl; have c5 := I13.out.get 5 rfl; have d5 := J13.out.get 5 rfl; have c6 := I13.out.get 6 rfl; have d6 := J13.out.get 6 rfl; have c7 := I13.out.get 7 rfl; have d7 := J13.out.get 7 rfl; 
              have SB : (SZ.toList == SZ.toList) = true := by simp
              clear b18 hSZ
              go_wp2_with fail
              go_ret
              exact ⟨rfl, B18.out⟩
end Go.Proofs.YthcbiohmghaobaaDoor
