/-
  Layer 19: the walk of VfsCreateRules. (gen_VfsW4.py writes it.)
-/
import Derived.Test.YthcbiohmghaobaaDoorPz10
import Derived.Test.YthcbiohmghaobaaDoorPz11
import Derived.Test.YthcbiohmghaobaaDoorVfsLarge
import Derived.Test.YthcbiohmghaobaaDoorVfsDo
import Derived.Test.YthcbiohmghaobaaDoorVfsList
namespace Go.Proofs.YthcbiohmghaobaaDoor
open Go.RowKit Go.MapKept Go.Proofs.YthcbiohmghaobaaDoor.Pnm Flt Vfs

theorem Vfs.stat_gen (s : St) (p : ByteArray) : ∃ K M NU LI SZ TT U MT, stV s p = infL K M NU LI SZ TT U MT := by
  unfold stV
  cases fnd s.ps p <;> exact ⟨_, _, _, _, _, _, _, _, rfl⟩
theorem Vfs.mkE_dir (s : St) (p : ByteArray) : mkE s 0 p 448 emp = if chE (numsOf p) ≠ 0 then chE (numsOf p) else plcE s p := by
  have h : filE 0 p 448 emp = chE (numsOf p) := by
    unfold filE
    by_cases h : chE (numsOf p) ≠ 0
    · rw [if_pos h]
    · rw [if_neg h, if_neg (by omega), if_neg (by decide)]; exact (Decidable.not_not.mp h).symm
  unfold mkE
  rw [h]
/-- the five ways that a directory's making goes -/
theorem Vfs.mkdir_ways {N : Nat} {F S : Int} {s : St} (g : Gd N F S s) (p : ByteArray) :
    (chE (numsOf p) ≠ 0 ∧ mkE s 0 p 448 emp = chE (numsOf p) ∧ mkS F S s 0 p 448 [] emp = s)
    ∨ (chE (numsOf p) = 0 ∧ chE' s (parB p) = 19 ∧ mkE s 0 p 448 emp = 13 ∧ mkS F S s 0 p 448 [] emp = s)
    ∨ (chE (numsOf p) = 0 ∧ chE' s (parB p) = 0 ∧ (∃ K M NU LI SZ TT U MT, K ≠ 0 ∧ stV s (parB p) = infL K M NU LI SZ TT U MT) ∧ mkE s 0 p 448 emp = 13 ∧ mkS F S s 0 p 448 [] emp = s)
    ∨ (chE (numsOf p) = 0 ∧ chE' s (parB p) = 0 ∧ (∃ M NU LI SZ TT U MT, stV s (parB p) = infL 0 M NU LI SZ TT U MT) ∧ chE' s p = 0 ∧ mkE s 0 p 448 emp = 14 ∧ mkS F S s 0 p 448 [] emp = s)
    ∨ (chE (numsOf p) = 0 ∧ chE' s (parB p) = 0 ∧ (∃ M NU LI SZ TT U MT, stV s (parB p) = infL 0 M NU LI SZ TT U MT) ∧ chE' s p = 19 ∧ mkE s 0 p 448 emp = 0 ∧ chE' (mkS F S s 0 p 448 [] emp) p = 0 ∧ (∃ NU SZ TT U MT, stV (mkS F S s 0 p 448 [] emp) p = infL 0 448 NU 1 SZ TT U MT) ∧ lsE (mkS F S s 0 p 448 [] emp) p = 0) := by
  have e := mkE_dir s p
  by_cases h : chE (numsOf p) ≠ 0
  · rw [if_pos h] at e
    exact .inl ⟨h, e, mkS_bad (by rw [e]; exact h)⟩
  rw [if_neg h] at e
  have h := Decidable.not_not.mp h
  unfold plcE at e
  cases hj : fnd s.ps (parB p) with
  | none =>
    rw [hj] at e
    exact .inr (.inl ⟨h, by unfold chE'; rw [hj], e, mkS_bad (by rw [e]; show (13 : Int) ≠ 0; decide)⟩)
  | some j =>
    rw [hj] at e
    dsimp only at e
    have c0 : chE' s (parB p) = 0 := by unfold chE'; rw [hj]
    have st : stV s (parB p) = infL (s.at j).k (s.at j).m (s.at j).num (s.at j).l (s.at j).d.length (s.at j).t (s.at j).u (s.at j).mt := by unfold stV; rw [hj]
    by_cases hk : (s.at j).k ≠ 0
    · rw [if_pos hk] at e
      exact .inr (.inr (.inl ⟨h, c0, ⟨_, _, _, _, _, _, _, _, hk, st⟩, e, mkS_bad (by rw [e]; decide)⟩))
    rw [if_neg hk] at e
    rw [Decidable.not_not.mp hk] at st
    cases hp : fnd s.ps p with
    | some i =>
      rw [hp] at e
      exact .inr (.inr (.inr (.inl ⟨h, c0, ⟨_, _, _, _, _, _, _, st⟩, by unfold chE'; rw [hp], e, mkS_bad (by rw [e]; show (14 : Int) ≠ 0; decide)⟩)))
    | none =>
      rw [hp] at e
      have fp : fnd (mkS F S s 0 p 448 [] emp).ps p = some s.is.length := by rw [mkS_of e, newS_ps]; exact (by rw [fnd_snoc, hp]; exact if_pos rfl)
      have at' := newS_new (F := F) (S := S) (k := 0) (m := 448) (d := []) (t := emp) hj (g.wf.lt hj)
      refine .inr (.inr (.inr (.inr ⟨h, c0, ⟨_, _, _, _, _, _, _, st⟩, by unfold chE'; rw [hp], e, by unfold chE'; rw [fp], ?_, ?_⟩)))
      · unfold stV
        rw [fp]
        dsimp only
        rw [mkS_of e, at']
        exact ⟨_, _, _, _, _, rfl⟩
      · unfold lsE
        rw [fp]
        dsimp only
        rw [mkS_of e, at']
        exact if_pos rfl
set_option maxRecDepth 100000 in
set_option maxHeartbeats 16000000 in
theorem walk_VfsCreateRules (a : Option Addr) (len cap : Nat) (ys : List VaS) (P : ByteArray) (w : World) (V : Pxr.Vars w) (ha : ArgVas w a len cap ys) (hP : P.size ≤ maxLen) :
    Calls Tryd.prog 7 #[.slice a len cap, .string P] w fun e w' => e = .returned (.bool true) ∧ Below w.heap.size w w' := by
  have HA := Lib.hid ha
  have PL0 := Lib.hid hP
  have AL := Lib.hid fun w' (hb : Below w.heap.size w w') => alive_any w' (V.go hb)
  have VV := Lib.hid fun w' (hb : Below w.heap.size w w') => V.go hb
  have OP := Lib.hid fun w' => opts_any 0 0 (by omega) (by omega) none 0 0 [] w' (.inl rfl) rfl (Nat.le_refl 0) (fun _ h => by cases h) (by omega)
  have OIT : Hid (ObjT Tryd.prog 52 8) := ⟨⟨_, Tryd.underlying52⟩, by kernel_rfl⟩
  have ZI : Hid ((Tryd.prog.info? 52).map (·.zero) = some (some (.agg (infL 0 0 0 0 0 ⟨#[]⟩ 0 0).toArray))) := by show _ = _; kernel_rfl
  have NZ : Hid ((Tryd.prog.info? 40).map (·.zero) = some (some (.agg (vaL 0 ⟨#[]⟩ 0 none 0 0 ⟨#[]⟩).toArray))) := by show _ = _; kernel_rfl
  have NO : Hid (ObjT Tryd.prog 40 5) := ⟨⟨_, Tryd.underlying40⟩, by kernel_rfl⟩
  obtain ⟨F, hF⟩ := named ((1 : Int) + 0); obtain ⟨S, hS⟩ := named ((1 : Int) + 0)
  have FB : Hid (numOk F ∧ numOk S) := ⟨by rw [hF.out]; unfold numOk; omega, by rw [hS.out]; unfold numOk; omega⟩
  rw [← hF.out] at OP
  rw [show S = F from hS.out.trans hF.out.symm] at FB
  have hn : len ≤ maxLen := Nat.le_trans ha.c ha.m
  unfold maxLen at hn
  clear ha V hF hS hP
  go_enter Tryd.func7, Tryd.ntmps7
  go_wp2_with fail
  refine (OP.out w).mono ?_; rintro e w1 ⟨oa, oc, rfl, io, b1⟩
  have B1 := Lib.hid b1
  have NW := Lib.hid (new_good 100 (by omega) F F oa 0 oc [] w1 io rfl (by omega) (by unfold optE; rw [if_pos ⟨FB.out.1, FB.out.2, fun _ h => by cases h⟩]))
  clear b1 io OP
  go_wp2_with fail
  refine NW.out.mono ?_; rintro e w2 ⟨f, rfl, h2, b2⟩
  have B2 := Lib.hid (belT B1.out b2)
  have SZ12 := Lib.hid (Nat.le_trans B1.out.size (Nat.le_refl w1.heap.size))
  obtain ⟨T0, hT0⟩ : ∃ T0, T0 = (fun k => w1.heap.size ≤ k ∧ k < w2.heap.size) := ⟨_, rfl⟩
  rw [← hT0] at h2
  have H2 := Lib.hid h2
  have T0B : Hid (∀ q, T0 q → w.heap.size ≤ q) := fun q hq => by rw [hT0] at hq; exact Nat.le_trans SZ12.out hq.1
  have HFB : Hid (w.heap.size ≤ f) := T0B.out f H2.out.me
  clear b2 h2 NW hT0
  go_wp2_with fail
  refine (large_any a len cap ys w2 (HA.out.below B2.out)).mono ?_; rintro e w3 ⟨R, rfl, hR, b3⟩
  have B3 := Lib.hid (belT B2.out b3); have H3 := Lib.hid (H2.out.below b3)
  clear b3
  rcases hR with rfl | ⟨rfl, h40, hsz⟩
  · go_wp2_with fail
    refine (AL.out w3 B3.out).mono ?_; rintro e w4 ⟨rfl, b4⟩
    have B4 := Lib.hid (belT B3.out b4)
    clear b4
    go_wp2_with fail
    go_ret
    exact ⟨rfl, B4.out⟩
  by_cases hp3 : 3000 < P.size
  · have hp3' : (P.size : Int) > 3000 := by omega
    clear h40 hsz
    go_wp2_with fail
    refine (AL.out w3 B3.out).mono ?_; rintro e w4 ⟨rfl, b4⟩
    have B4 := Lib.hid (belT B3.out b4)
    clear b4
    go_wp2_with fail
    go_ret
    exact ⟨rfl, B4.out⟩
  have hp3' : ¬ (P.size : Int) > 3000 := by omega
  have N40 := Lib.hid h40; have HSZ := Lib.hid hsz
  clear h40 hsz hp3
  go_wp2_with fail
  clear hp3'
  go_loopw [43] (fun i wr => ∃ (j : Nat) (s : St) (T : Nat → Prop), i = .int .i64 j ∧ j ≤ len ∧ Hid (FsS 100 F F [] T wr f s) ∧ Hid (Gd 100 F F s) ∧ Hid (s.ps.length ≤ j + 1) ∧ Hid (∀ q, T q → w.heap.size ≤ q) ∧ Hid (Below w.heap.size w wr)) (fun i _ => len - (intOf i).toNat)
  case atStart => exact ⟨0, st0 F, T0, rfl, Nat.zero_le _, H3, gd0 100 F F (by omega), Nat.le_refl 1, T0B, B3⟩
  case round =>
    clear H2 H3 T0B B1 B2 B3
    obtain ⟨j, s, T, rfl, hj, HF, GD, PL, HT, HB⟩ := hrel
    by_cases hjn : j < len
    · obtain ⟨b, off, y, rfl, hb, hy, hf, hat⟩ := HA.out.get j hjn
      have hcc := (hat.below HB.out hb).c hy
      obtain ⟨c0, c1, c2, c3, c4⟩ := hcc
      have hsz := HSZ.out y (List.mem_of_getElem? hy)
      have VF := Lib.hid hf
      have VL := hf.l
      clear hat hy hb hf
      obtain ⟨⟨k, p, m, d, t⟩, x, xc⟩ := y
      dsimp only at hsz VL
      obtain ⟨L, hL⟩ := named d.length
      have c3' : wr.cell? ⟨b, off + j * 5 + 3, none⟩ = some (.slice x L xc) := by rw [hL.out]; exact c3
      clear c3
      have CC : Hid (∀ i v, (vaL k p m x L xc t)[i]? = some v → wr.cell? ⟨b, off + j * 5 + i, none⟩ = some v) := by
        intro i v hi
        match i with
        | 0 => obtain rfl : _ = v := Option.some.inj hi; exact c0
        | 1 => obtain rfl : _ = v := Option.some.inj hi; exact c1
        | 2 => obtain rfl : _ = v := Option.some.inj hi; exact c2
        | 3 => obtain rfl : _ = v := Option.some.inj hi; exact c3'
        | 4 => obtain rfl : _ = v := Option.some.inj hi; exact c4
        | i + 5 => simp at hi
      have j1 : (j : Int) < len := by omega
      have j2 : (j : Int) < cap := by have := HA.out.c; omega
      obtain ⟨s', hs'⟩ := named (doS F F s ⟨k, p, m, d, t⟩); obtain ⟨E, hE⟩ := named (doE s ⟨k, p, m, d, t⟩)
      have hps := PL.out; have h40 := N40.out
      have GD' : Hid (Gd 100 F F s') := by show Gd _ _ _ _; rw [hs'.out]; exact doS_gd GD.out _ (by omega) (by dsimp only; omega) (by dsimp only; omega)
      have PL' : Hid (s'.ps.length ≤ j + 1 + 1) := by show _ ≤ _; rw [hs'.out]; exact Nat.le_trans (doS_ps ..) (by omega)
      have DO : Hid (∀ wb T, Below w.heap.size w wb → FsS 100 F F [] T wb f s → Calls Tryd.prog 14 #[.pointer (some ⟨f, 0, none⟩), .agg (vaL k p m x L xc t).toArray] wb fun e w' => e = .returned (.int .i64 E) ∧ Only T wb w' ∧ FsS 100 F F [] (Grow T wb w') w' f s') := fun wb T hb h => by
        have := do_any h GD.out (by omega) (by omega) (VV.out wb hb) k p m d x xc t (by omega) (by omega) ((VF.out.below hb).d.bytes) VL (by
          by_cases hd0 : d = []
          · exact .inl hd0
          · refine .inr fun z hz e => ?_
            obtain ⟨b', off', hx, hlt⟩ := VF.out.d.inK.plain (by
              show 0 < d.length
              exact List.length_pos_iff.2 hd0)
            have hx : x = some ⟨b', off', none⟩ := hx
            rw [hx] at hz
            obtain rfl := Option.some.inj hz
            have := HFB.out
            have e : b' = f := e
            omega)
        rw [← hE.out, ← hs'.out, ← hL.out] at this
        exact this
      clear c0 c1 c2 c3' c4 hps h40 hsz VL hL hE hs'
      go_wp2_with (first | (refine wpList_load_part rfl 40 5 NO.out _ rfl b (off + j * 5) rfl (vaL k p m x L xc t) rfl CC.out ?_) | (refine wpList_alloc_obj rfl 40 rfl (vaL 0 ⟨#[]⟩ 0 none 0 0 ⟨#[]⟩) NZ.out ?_; intro wa ga ba; have GA := Lib.hid ga; have BA := Lib.hid (belT HB.out ba); have FA := Lib.hid (HF.out.below ba); clear ga ba) | (refine wpList_store_obj rfl 40 _ _ rfl wr.heap.size rfl (vaL k p m x L xc t) (vaL 0 ⟨#[]⟩ 0 none 0 0 ⟨#[]⟩) rfl 40 GA.out NO.out.2 rfl (by simp [Value.oneCell']) ?_; intro wb gb tb'; have GB := Lib.hid gb; have BB := Lib.hid (BA.out.trans (tb'.below HB.out.size)); have FB := Lib.hid (FA.out.turn (tb tb') (fun q => Nat.lt_irrefl _ (HF.out.lt _ q))); clear gb tb') | (refine wpList_load_obj rfl 40 5 NO.out _ rfl wr.heap.size rfl _ _ GB.out rfl ?_))
      refine (DO.out wb T BB.out FB.out).mono ?_; rintro e w3 ⟨rfl, o3, f3⟩
      obtain ⟨T3, hT3⟩ : ∃ T3, T3 = Grow T wb w3 := ⟨_, rfl⟩
      rw [← hT3] at f3
      have F3 := Lib.hid f3
      have B3 : Hid (Below w.heap.size w w3) := BB.out.trans (o3.below HT.out BB.out.size)
      have T3B : Hid (∀ q, T3 q → w.heap.size ≤ q) := fun q hq => by
        rw [hT3] at hq
        rcases hq with hq | hq
        · exact HT.out q hq
        · exact Nat.le_trans BB.out.size hq.1
      clear o3 f3 hT3 GA BA FA GB BB FB
      go_wp2_with fail
      go_roundw
      case rel => exact ⟨j + 1, s', T3, by go_num, by omega, F3, GD', PL', T3B, B3⟩
      case measure => simp [intOf]; omega
    · obtain rfl : j = len := by omega
      clear hjn HFB FB
      have ways := mkdir_ways GD.out P
      obtain ⟨K1, M1, NU1, LI1, SZ1, TT1, U1, MT1, st1⟩ := stat_gen s P
      obtain ⟨EX, hEX⟩ := named (chE' s P); obtain ⟨q, hq⟩ := named (parB P)
      obtain ⟨E, hE⟩ := named (mkE s 0 P 448 emp); obtain ⟨s', hs'⟩ := named (mkS F F s 0 P 448 [] emp)
      obtain ⟨CH, hCH⟩ := named (chE (numsOf P)); obtain ⟨EP, hEP⟩ := named (chE' s q); obtain ⟨LE, hLE⟩ := named (lsE s' P)
      have LS1 : Hid (∀ w', FsS 100 F F [] T w' f s → Calls Tryd.prog 20 #[.pointer (some ⟨f, 0, none⟩), .string P] w' fun e w'' => e = .returned (.tuple #[(.agg #[.int .i64 K1, .int .i64 M1, .int .i64 NU1, .int .i64 LI1, .int .i64 SZ1, .string TT1, .int .i64 U1, .int .i64 MT1]), .int .i64 EX]) ∧ Below w'.heap.size w' w'') := fun w' h => by
        have := lstat_any h P
        rw [st1, ← hEX.out] at this
        exact this
      have PC : Hid (∀ w', Calls Tryd.prog 33 #[.string P] w' fun e w'' => e = .returned (.string q) ∧ Below w'.heap.size w' w'') := fun w' => by rw [hq.out]; exact pparent P w' PL0.out
      have CK : Hid (∀ w', Calls Tryd.prog 34 #[.string P] w' fun e w'' => e = .returned (.int .i64 CH) ∧ Below w'.heap.size w' w'') := fun w' => by rw [hCH.out]; exact pcheck P w' PL0.out
      have MK : Hid (∀ w', Below w.heap.size w w' → FsS 100 F F [] T w' f s → Calls Tryd.prog 22 #[.pointer (some ⟨f, 0, none⟩), .string P, .int .i64 448] w' fun e w'' => e = .returned (.int .i64 E) ∧ Only T w' w'' ∧ FsS 100 F F [] (Grow T w' w'') w'' f s') := fun w' hb h => by
        rw [hE.out, hs'.out]
        exact mkdir_any h GD.out (by have := PL.out; have := N40.out; omega) (by omega) (VV.out w' hb) P PL0.out 448
      have LI : Hid (∀ w' T, FsS 100 F F [] T w' f s' → Calls Tryd.prog 17 #[.pointer (some ⟨f, 0, none⟩), .string P] w' fun e w'' => ∃ a n c, e = .returned (.tuple #[.slice a n c, .int .i64 LE]) ∧ Only T w' w'') := fun w' T h => by
        rw [hLE.out]
        exact (list_any h (by omega) P).mono fun e w'' ⟨a, n, c, h1, _, h3, _⟩ => ⟨a, n, c, h1, h3⟩
      have G2 : ∀ K M NU LI SZ TT U MT, stV s q = infL K M NU LI SZ TT U MT → Hid (∀ w', FsS 100 F F [] T w' f s → Calls Tryd.prog 20 #[.pointer (some ⟨f, 0, none⟩), .string q] w' fun e w'' => e = .returned (.tuple #[(.agg #[.int .i64 K, .int .i64 M, .int .i64 NU, .int .i64 LI, .int .i64 SZ, .string TT, .int .i64 U, .int .i64 MT]), .int .i64 EP]) ∧ Below w'.heap.size w' w'') := fun K M NU LI SZ TT U MT st w' h => by
        have := lstat_any h q
        rw [st, ← hEP.out] at this
        exact this
      have G3 : s' = s → Hid (∀ w' T, FsS 100 F F [] T w' f s' → Calls Tryd.prog 20 #[.pointer (some ⟨f, 0, none⟩), .string P] w' fun e w'' => e = .returned (.tuple #[(.agg #[.int .i64 K1, .int .i64 M1, .int .i64 NU1, .int .i64 LI1, .int .i64 SZ1, .string TT1, .int .i64 U1, .int .i64 MT1]), .int .i64 EX]) ∧ Below w'.heap.size w' w'') := fun hss w' T h => by
        rw [hss] at h
        have := lstat_any h P
        rw [st1, ← hEX.out] at this
        exact this
      rw [← hE.out, ← hs'.out, ← hCH.out, ← hq.out, ← hEX.out, ← hEP.out, ← hLE.out] at ways
      have nx : (EX != EX) = false := by simp
      rcases ways with ⟨hc, he, hss⟩ | ⟨hc, hp, he, hss⟩ | ⟨hc, hp, ⟨K2, M2, NU2, LI2, SZ2, TT2, U2, MT2, hk, st2⟩, he, hss⟩ | ⟨hc, hp, ⟨M2, NU2, LI2, SZ2, TT2, U2, MT2, st2⟩, hx, he, hss⟩ | ⟨hc, hp, ⟨M2, NU2, LI2, SZ2, TT2, U2, MT2, st2⟩, hx, he, hx3, ⟨NU3, SZ3, TT3, U3, MT3, st3⟩, hle⟩
      · skip
        have e0 : (E == 0) = false := by rw [he]; simpa using hc
        have e1 : (E != 0) = true := by rw [he]; simpa using hc
        have h1 : (CH != 0) = true := by simpa using hc
        obtain rfl : E = CH := he
        have ee : (E != E) = false := by simp
        obtain ⟨K2, M2, NU2, LI2, SZ2, TT2, U2, MT2, st2⟩ := stat_gen s q
        have LS2 := G2 _ _ _ _ _ _ _ _ st2
        clear st2 hc
        have LS3 := G3 hss
        clear hss
        clear hE hs' hCH hEP hLE hq hEX st1 G2 G3 PL GD VV PL0
        go_wp2_with fail
        refine (LS1.out wr HF.out).mono ?_; rintro e w1 ⟨rfl, b1⟩
        have B1 := Lib.hid (belT HB.out b1); have F1 := Lib.hid (HF.out.below b1)
        clear b1
        go_wp2_with (first | (refine wpList_alloc_obj rfl 52 rfl _ ZI.out ?_; intro wa1 ga ba; have GA1 := Lib.hid ga; have BA1 := Lib.hid (belT B1.out ba); have FA1 := Lib.hid (F1.out.below ba); clear ga ba) | (refine wpList_store_obj rfl 52 _ _ rfl w1.heap.size rfl (infL K1 M1 NU1 LI1 SZ1 TT1 U1 MT1) (infL 0 0 0 0 0 ⟨#[]⟩ 0 0) rfl 52 GA1.out OIT.out.2 rfl (by simp [Value.oneCell']) ?_; intro wb1 gb t6; have BB1 := Lib.hid (BA1.out.trans (t6.below B1.out.size)); have FB1 := Lib.hid (FA1.out.turn (tb t6) (fun q => Nat.lt_irrefl _ (F1.out.lt _ q))); clear gb t6))
        refine (PC.out wb1).mono ?_; rintro e w2 ⟨rfl, b2⟩
        have B2 := Lib.hid (belT BB1.out b2); have F2 := Lib.hid (FB1.out.below b2)
        clear b2
        go_wp2_with fail
        refine (LS2.out w2 F2.out).mono ?_; rintro e w3 ⟨rfl, b3⟩
        have B3 := Lib.hid (belT B2.out b3); have F3 := Lib.hid (F2.out.below b3)
        clear b3
        go_wp2_with (first | (refine wpList_alloc_obj rfl 52 rfl _ ZI.out ?_; intro wa2 ga ba; have GA2 := Lib.hid ga; have BA2 := Lib.hid (belT B3.out ba); have FA2 := Lib.hid (F3.out.below ba); clear ga ba) | (refine wpList_store_obj rfl 52 _ _ rfl w3.heap.size rfl (infL K2 M2 NU2 LI2 SZ2 TT2 U2 MT2) (infL 0 0 0 0 0 ⟨#[]⟩ 0 0) rfl 52 GA2.out OIT.out.2 rfl (by simp [Value.oneCell']) ?_; intro wb2 gb t6; have BB2 := Lib.hid (BA2.out.trans (t6.below B3.out.size)); have FB2 := Lib.hid (FA2.out.turn (tb t6) (fun q => Nat.lt_irrefl _ (F3.out.lt _ q))); have GX := Lib.hid gb; clear gb t6))
        refine (CK.out wb2).mono ?_; rintro e w4 ⟨rfl, b4⟩
        have B4 := Lib.hid (belT BB2.out b4); have F4 := Lib.hid (FB2.out.below b4)
        have c0 := (GX.out.below b4 GX.out.lt).get 0 rfl
        clear b4
        go_wp2_with fail
        refine (MK.out w4 B4.out F4.out).mono ?_; rintro e w5 ⟨rfl, o5, f5⟩
        have B5 := Lib.hid (B4.out.trans (o5.below HT.out B4.out.size))
        obtain ⟨T5, hT5⟩ : ∃ T5, T5 = Grow T w4 w5 := ⟨_, rfl⟩
        rw [← hT5] at f5
        have F5 := Lib.hid f5
        have T5B : Hid (∀ q, T5 q → w.heap.size ≤ q) := fun q hq => by
          rw [hT5] at hq
          rcases hq with hq | hq
          · exact HT.out q hq
          · exact Nat.le_trans B4.out.size hq.1
        clear o5 f5 hT5
        go_wp2_with fail
        refine (LS3.out w5 T5 F5.out).mono ?_; rintro e w6 ⟨rfl, b6⟩
        have B6 := Lib.hid (belT B5.out b6); have F6 := Lib.hid (F5.out.below b6)
        clear b6
        go_wp2_with (first | (refine wpList_alloc_obj rfl 52 rfl _ ZI.out ?_; intro wa3 ga ba; have GA3 := Lib.hid ga; have BA3 := Lib.hid (belT B6.out ba); have FA3 := Lib.hid (F6.out.below ba); clear ga ba) | (refine wpList_store_obj rfl 52 _ _ rfl w6.heap.size rfl (infL K1 M1 NU1 LI1 SZ1 TT1 U1 MT1) (infL 0 0 0 0 0 ⟨#[]⟩ 0 0) rfl 52 GA3.out OIT.out.2 rfl (by simp [Value.oneCell']) ?_; intro wb3 gb t6; have BB3 := Lib.hid (BA3.out.trans (t6.below B6.out.size)); have FB3 := Lib.hid (FA3.out.turn (tb t6) (fun q => Nat.lt_irrefl _ (F6.out.lt _ q))); have d0 := gb.get 0 rfl; have d1 := gb.get 1 rfl; have d3 := gb.get 3 rfl; clear gb t6))
        refine (LI.out wb3 T5 FB3.out).mono ?_; rintro e w7 ⟨la, ln, lc, rfl, o7⟩
        have B7 := Lib.hid (BB3.out.trans (o7.below T5B.out BB3.out.size))
        clear o7
        go_wp2_with fail
        refine (AL.out w7 B7.out).mono ?_; rintro e w8 ⟨rfl, b8⟩
        have B8 := Lib.hid (belT B7.out b8)
        clear b8
        go_wp2_with fail
        go_ret
        exact ⟨rfl, B8.out⟩
      · skip
        have zz : stV s q = (infL 0 0 0 0 0 ⟨#[]⟩ 0 0) := by
          have := hEP.out
          rw [hp] at this
          unfold chE' at this
          unfold stV
          cases hf : fnd s.ps q with
          | none => rfl
          | some i => rw [hf] at this; cases this
        have LS2 := G2 _ _ _ _ _ _ _ _ zz
        obtain rfl : CH = 0 := hc
        obtain rfl : EP = 19 := hp
        obtain rfl : E = 13 := he
        clear zz
        have LS3 := G3 hss
        clear hss
        clear hE hs' hCH hEP hLE hq hEX st1 G2 G3 PL GD VV PL0
        go_wp2_with fail
        refine (LS1.out wr HF.out).mono ?_; rintro e w1 ⟨rfl, b1⟩
        have B1 := Lib.hid (belT HB.out b1); have F1 := Lib.hid (HF.out.below b1)
        clear b1
        go_wp2_with (first | (refine wpList_alloc_obj rfl 52 rfl _ ZI.out ?_; intro wa1 ga ba; have GA1 := Lib.hid ga; have BA1 := Lib.hid (belT B1.out ba); have FA1 := Lib.hid (F1.out.below ba); clear ga ba) | (refine wpList_store_obj rfl 52 _ _ rfl w1.heap.size rfl (infL K1 M1 NU1 LI1 SZ1 TT1 U1 MT1) (infL 0 0 0 0 0 ⟨#[]⟩ 0 0) rfl 52 GA1.out OIT.out.2 rfl (by simp [Value.oneCell']) ?_; intro wb1 gb t6; have BB1 := Lib.hid (BA1.out.trans (t6.below B1.out.size)); have FB1 := Lib.hid (FA1.out.turn (tb t6) (fun q => Nat.lt_irrefl _ (F1.out.lt _ q))); clear gb t6))
        refine (PC.out wb1).mono ?_; rintro e w2 ⟨rfl, b2⟩
        have B2 := Lib.hid (belT BB1.out b2); have F2 := Lib.hid (FB1.out.below b2)
        clear b2
        go_wp2_with fail
        refine (LS2.out w2 F2.out).mono ?_; rintro e w3 ⟨rfl, b3⟩
        have B3 := Lib.hid (belT B2.out b3); have F3 := Lib.hid (F2.out.below b3)
        clear b3
        go_wp2_with (first | (refine wpList_alloc_obj rfl 52 rfl _ ZI.out ?_; intro wa2 ga ba; have GA2 := Lib.hid ga; have BA2 := Lib.hid (belT B3.out ba); have FA2 := Lib.hid (F3.out.below ba); clear ga ba) | (refine wpList_store_obj rfl 52 _ _ rfl w3.heap.size rfl (infL 0 0 0 0 0 ⟨#[]⟩ 0 0) (infL 0 0 0 0 0 ⟨#[]⟩ 0 0) rfl 52 GA2.out OIT.out.2 rfl (by simp [Value.oneCell']) ?_; intro wb2 gb t6; have BB2 := Lib.hid (BA2.out.trans (t6.below B3.out.size)); have FB2 := Lib.hid (FA2.out.turn (tb t6) (fun q => Nat.lt_irrefl _ (F3.out.lt _ q))); have GX := Lib.hid gb; clear gb t6))
        refine (CK.out wb2).mono ?_; rintro e w4 ⟨rfl, b4⟩
        have B4 := Lib.hid (belT BB2.out b4); have F4 := Lib.hid (FB2.out.below b4)
        have c0 := (GX.out.below b4 GX.out.lt).get 0 rfl
        clear b4
        go_wp2_with fail
        refine (MK.out w4 B4.out F4.out).mono ?_; rintro e w5 ⟨rfl, o5, f5⟩
        have B5 := Lib.hid (B4.out.trans (o5.below HT.out B4.out.size))
        obtain ⟨T5, hT5⟩ : ∃ T5, T5 = Grow T w4 w5 := ⟨_, rfl⟩
        rw [← hT5] at f5
        have F5 := Lib.hid f5
        have T5B : Hid (∀ q, T5 q → w.heap.size ≤ q) := fun q hq => by
          rw [hT5] at hq
          rcases hq with hq | hq
          · exact HT.out q hq
          · exact Nat.le_trans B4.out.size hq.1
        clear o5 f5 hT5
        go_wp2_with fail
        refine (LS3.out w5 T5 F5.out).mono ?_; rintro e w6 ⟨rfl, b6⟩
        have B6 := Lib.hid (belT B5.out b6); have F6 := Lib.hid (F5.out.below b6)
        clear b6
        go_wp2_with (first | (refine wpList_alloc_obj rfl 52 rfl _ ZI.out ?_; intro wa3 ga ba; have GA3 := Lib.hid ga; have BA3 := Lib.hid (belT B6.out ba); have FA3 := Lib.hid (F6.out.below ba); clear ga ba) | (refine wpList_store_obj rfl 52 _ _ rfl w6.heap.size rfl (infL K1 M1 NU1 LI1 SZ1 TT1 U1 MT1) (infL 0 0 0 0 0 ⟨#[]⟩ 0 0) rfl 52 GA3.out OIT.out.2 rfl (by simp [Value.oneCell']) ?_; intro wb3 gb t6; have BB3 := Lib.hid (BA3.out.trans (t6.below B6.out.size)); have FB3 := Lib.hid (FA3.out.turn (tb t6) (fun q => Nat.lt_irrefl _ (F6.out.lt _ q))); have d0 := gb.get 0 rfl; have d1 := gb.get 1 rfl; have d3 := gb.get 3 rfl; clear gb t6))
        refine (LI.out wb3 T5 FB3.out).mono ?_; rintro e w7 ⟨la, ln, lc, rfl, o7⟩
        have B7 := Lib.hid (BB3.out.trans (o7.below T5B.out BB3.out.size))
        clear o7
        go_wp2_with fail
        refine (AL.out w7 B7.out).mono ?_; rintro e w8 ⟨rfl, b8⟩
        have B8 := Lib.hid (belT B7.out b8)
        clear b8
        go_wp2_with fail
        go_ret
        exact ⟨rfl, B8.out⟩
      · skip
        have k2 : (K2 != 0) = true := by simpa using hk
        have LS2 := G2 _ _ _ _ _ _ _ _ st2
        obtain rfl : CH = 0 := hc
        obtain rfl : EP = 0 := hp
        obtain rfl : E = 13 := he
        clear st2 hk
        have LS3 := G3 hss
        clear hss
        clear hE hs' hCH hEP hLE hq hEX st1 G2 G3 PL GD VV PL0
        go_wp2_with fail
        refine (LS1.out wr HF.out).mono ?_; rintro e w1 ⟨rfl, b1⟩
        have B1 := Lib.hid (belT HB.out b1); have F1 := Lib.hid (HF.out.below b1)
        clear b1
        go_wp2_with (first | (refine wpList_alloc_obj rfl 52 rfl _ ZI.out ?_; intro wa1 ga ba; have GA1 := Lib.hid ga; have BA1 := Lib.hid (belT B1.out ba); have FA1 := Lib.hid (F1.out.below ba); clear ga ba) | (refine wpList_store_obj rfl 52 _ _ rfl w1.heap.size rfl (infL K1 M1 NU1 LI1 SZ1 TT1 U1 MT1) (infL 0 0 0 0 0 ⟨#[]⟩ 0 0) rfl 52 GA1.out OIT.out.2 rfl (by simp [Value.oneCell']) ?_; intro wb1 gb t6; have BB1 := Lib.hid (BA1.out.trans (t6.below B1.out.size)); have FB1 := Lib.hid (FA1.out.turn (tb t6) (fun q => Nat.lt_irrefl _ (F1.out.lt _ q))); clear gb t6))
        refine (PC.out wb1).mono ?_; rintro e w2 ⟨rfl, b2⟩
        have B2 := Lib.hid (belT BB1.out b2); have F2 := Lib.hid (FB1.out.below b2)
        clear b2
        go_wp2_with fail
        refine (LS2.out w2 F2.out).mono ?_; rintro e w3 ⟨rfl, b3⟩
        have B3 := Lib.hid (belT B2.out b3); have F3 := Lib.hid (F2.out.below b3)
        clear b3
        go_wp2_with (first | (refine wpList_alloc_obj rfl 52 rfl _ ZI.out ?_; intro wa2 ga ba; have GA2 := Lib.hid ga; have BA2 := Lib.hid (belT B3.out ba); have FA2 := Lib.hid (F3.out.below ba); clear ga ba) | (refine wpList_store_obj rfl 52 _ _ rfl w3.heap.size rfl (infL K2 M2 NU2 LI2 SZ2 TT2 U2 MT2) (infL 0 0 0 0 0 ⟨#[]⟩ 0 0) rfl 52 GA2.out OIT.out.2 rfl (by simp [Value.oneCell']) ?_; intro wb2 gb t6; have BB2 := Lib.hid (BA2.out.trans (t6.below B3.out.size)); have FB2 := Lib.hid (FA2.out.turn (tb t6) (fun q => Nat.lt_irrefl _ (F3.out.lt _ q))); have GX := Lib.hid gb; clear gb t6))
        refine (CK.out wb2).mono ?_; rintro e w4 ⟨rfl, b4⟩
        have B4 := Lib.hid (belT BB2.out b4); have F4 := Lib.hid (FB2.out.below b4)
        have c0 := (GX.out.below b4 GX.out.lt).get 0 rfl
        clear b4
        go_wp2_with fail
        refine (MK.out w4 B4.out F4.out).mono ?_; rintro e w5 ⟨rfl, o5, f5⟩
        have B5 := Lib.hid (B4.out.trans (o5.below HT.out B4.out.size))
        obtain ⟨T5, hT5⟩ : ∃ T5, T5 = Grow T w4 w5 := ⟨_, rfl⟩
        rw [← hT5] at f5
        have F5 := Lib.hid f5
        have T5B : Hid (∀ q, T5 q → w.heap.size ≤ q) := fun q hq => by
          rw [hT5] at hq
          rcases hq with hq | hq
          · exact HT.out q hq
          · exact Nat.le_trans B4.out.size hq.1
        clear o5 f5 hT5
        go_wp2_with fail
        refine (LS3.out w5 T5 F5.out).mono ?_; rintro e w6 ⟨rfl, b6⟩
        have B6 := Lib.hid (belT B5.out b6); have F6 := Lib.hid (F5.out.below b6)
        clear b6
        go_wp2_with (first | (refine wpList_alloc_obj rfl 52 rfl _ ZI.out ?_; intro wa3 ga ba; have GA3 := Lib.hid ga; have BA3 := Lib.hid (belT B6.out ba); have FA3 := Lib.hid (F6.out.below ba); clear ga ba) | (refine wpList_store_obj rfl 52 _ _ rfl w6.heap.size rfl (infL K1 M1 NU1 LI1 SZ1 TT1 U1 MT1) (infL 0 0 0 0 0 ⟨#[]⟩ 0 0) rfl 52 GA3.out OIT.out.2 rfl (by simp [Value.oneCell']) ?_; intro wb3 gb t6; have BB3 := Lib.hid (BA3.out.trans (t6.below B6.out.size)); have FB3 := Lib.hid (FA3.out.turn (tb t6) (fun q => Nat.lt_irrefl _ (F6.out.lt _ q))); have d0 := gb.get 0 rfl; have d1 := gb.get 1 rfl; have d3 := gb.get 3 rfl; clear gb t6))
        refine (LI.out wb3 T5 FB3.out).mono ?_; rintro e w7 ⟨la, ln, lc, rfl, o7⟩
        have B7 := Lib.hid (BB3.out.trans (o7.below T5B.out BB3.out.size))
        clear o7
        go_wp2_with fail
        refine (AL.out w7 B7.out).mono ?_; rintro e w8 ⟨rfl, b8⟩
        have B8 := Lib.hid (belT B7.out b8)
        clear b8
        go_wp2_with fail
        go_ret
        exact ⟨rfl, B8.out⟩
      · skip
        have LS2 := G2 _ _ _ _ _ _ _ _ st2
        obtain rfl : CH = 0 := hc
        obtain rfl : EP = 0 := hp
        obtain rfl : E = 14 := he
        obtain rfl : EX = 0 := hx
        clear st2
        have LS3 := G3 hss
        clear hss
        clear hE hs' hCH hEP hLE hq hEX st1 G2 G3 PL GD VV PL0
        go_wp2_with fail
        refine (LS1.out wr HF.out).mono ?_; rintro e w1 ⟨rfl, b1⟩
        have B1 := Lib.hid (belT HB.out b1); have F1 := Lib.hid (HF.out.below b1)
        clear b1
        go_wp2_with (first | (refine wpList_alloc_obj rfl 52 rfl _ ZI.out ?_; intro wa1 ga ba; have GA1 := Lib.hid ga; have BA1 := Lib.hid (belT B1.out ba); have FA1 := Lib.hid (F1.out.below ba); clear ga ba) | (refine wpList_store_obj rfl 52 _ _ rfl w1.heap.size rfl (infL K1 M1 NU1 LI1 SZ1 TT1 U1 MT1) (infL 0 0 0 0 0 ⟨#[]⟩ 0 0) rfl 52 GA1.out OIT.out.2 rfl (by simp [Value.oneCell']) ?_; intro wb1 gb t6; have BB1 := Lib.hid (BA1.out.trans (t6.below B1.out.size)); have FB1 := Lib.hid (FA1.out.turn (tb t6) (fun q => Nat.lt_irrefl _ (F1.out.lt _ q))); clear gb t6))
        refine (PC.out wb1).mono ?_; rintro e w2 ⟨rfl, b2⟩
        have B2 := Lib.hid (belT BB1.out b2); have F2 := Lib.hid (FB1.out.below b2)
        clear b2
        go_wp2_with fail
        refine (LS2.out w2 F2.out).mono ?_; rintro e w3 ⟨rfl, b3⟩
        have B3 := Lib.hid (belT B2.out b3); have F3 := Lib.hid (F2.out.below b3)
        clear b3
        go_wp2_with (first | (refine wpList_alloc_obj rfl 52 rfl _ ZI.out ?_; intro wa2 ga ba; have GA2 := Lib.hid ga; have BA2 := Lib.hid (belT B3.out ba); have FA2 := Lib.hid (F3.out.below ba); clear ga ba) | (refine wpList_store_obj rfl 52 _ _ rfl w3.heap.size rfl (infL 0 M2 NU2 LI2 SZ2 TT2 U2 MT2) (infL 0 0 0 0 0 ⟨#[]⟩ 0 0) rfl 52 GA2.out OIT.out.2 rfl (by simp [Value.oneCell']) ?_; intro wb2 gb t6; have BB2 := Lib.hid (BA2.out.trans (t6.below B3.out.size)); have FB2 := Lib.hid (FA2.out.turn (tb t6) (fun q => Nat.lt_irrefl _ (F3.out.lt _ q))); have GX := Lib.hid gb; clear gb t6))
        refine (CK.out wb2).mono ?_; rintro e w4 ⟨rfl, b4⟩
        have B4 := Lib.hid (belT BB2.out b4); have F4 := Lib.hid (FB2.out.below b4)
        have c0 := (GX.out.below b4 GX.out.lt).get 0 rfl
        clear b4
        go_wp2_with fail
        refine (MK.out w4 B4.out F4.out).mono ?_; rintro e w5 ⟨rfl, o5, f5⟩
        have B5 := Lib.hid (B4.out.trans (o5.below HT.out B4.out.size))
        obtain ⟨T5, hT5⟩ : ∃ T5, T5 = Grow T w4 w5 := ⟨_, rfl⟩
        rw [← hT5] at f5
        have F5 := Lib.hid f5
        have T5B : Hid (∀ q, T5 q → w.heap.size ≤ q) := fun q hq => by
          rw [hT5] at hq
          rcases hq with hq | hq
          · exact HT.out q hq
          · exact Nat.le_trans B4.out.size hq.1
        clear o5 f5 hT5
        go_wp2_with fail
        refine (LS3.out w5 T5 F5.out).mono ?_; rintro e w6 ⟨rfl, b6⟩
        have B6 := Lib.hid (belT B5.out b6); have F6 := Lib.hid (F5.out.below b6)
        clear b6
        go_wp2_with (first | (refine wpList_alloc_obj rfl 52 rfl _ ZI.out ?_; intro wa3 ga ba; have GA3 := Lib.hid ga; have BA3 := Lib.hid (belT B6.out ba); have FA3 := Lib.hid (F6.out.below ba); clear ga ba) | (refine wpList_store_obj rfl 52 _ _ rfl w6.heap.size rfl (infL K1 M1 NU1 LI1 SZ1 TT1 U1 MT1) (infL 0 0 0 0 0 ⟨#[]⟩ 0 0) rfl 52 GA3.out OIT.out.2 rfl (by simp [Value.oneCell']) ?_; intro wb3 gb t6; have BB3 := Lib.hid (BA3.out.trans (t6.below B6.out.size)); have FB3 := Lib.hid (FA3.out.turn (tb t6) (fun q => Nat.lt_irrefl _ (F6.out.lt _ q))); have d0 := gb.get 0 rfl; have d1 := gb.get 1 rfl; have d3 := gb.get 3 rfl; clear gb t6))
        refine (LI.out wb3 T5 FB3.out).mono ?_; rintro e w7 ⟨la, ln, lc, rfl, o7⟩
        have B7 := Lib.hid (BB3.out.trans (o7.below T5B.out BB3.out.size))
        clear o7
        go_wp2_with fail
        refine (AL.out w7 B7.out).mono ?_; rintro e w8 ⟨rfl, b8⟩
        have B8 := Lib.hid (belT B7.out b8)
        clear b8
        go_wp2_with fail
        go_ret
        exact ⟨rfl, B8.out⟩
      · skip
        have LS2 := G2 _ _ _ _ _ _ _ _ st2
        have LS3 : Hid (∀ w' T, FsS 100 F F [] T w' f s' → Calls Tryd.prog 20 #[.pointer (some ⟨f, 0, none⟩), .string P] w' fun e w'' => e = .returned (.tuple #[(.agg #[.int .i64 0, .int .i64 448, .int .i64 NU3, .int .i64 1, .int .i64 SZ3, .string TT3, .int .i64 U3, .int .i64 MT3]), .int .i64 0]) ∧ Below w'.heap.size w' w'') := fun w' T h => by
          have := lstat_any h P
          rw [st3, hx3] at this
          exact this
        obtain rfl : CH = 0 := hc
        obtain rfl : EP = 0 := hp
        obtain rfl : E = 0 := he
        obtain rfl : EX = 19 := hx
        obtain rfl : LE = 0 := hle
        clear st2 st3 hx3
        clear hE hs' hCH hEP hLE hq hEX st1 G2 G3 PL GD VV PL0
        go_wp2_with fail
        refine (LS1.out wr HF.out).mono ?_; rintro e w1 ⟨rfl, b1⟩
        have B1 := Lib.hid (belT HB.out b1); have F1 := Lib.hid (HF.out.below b1)
        clear b1
        go_wp2_with (first | (refine wpList_alloc_obj rfl 52 rfl _ ZI.out ?_; intro wa1 ga ba; have GA1 := Lib.hid ga; have BA1 := Lib.hid (belT B1.out ba); have FA1 := Lib.hid (F1.out.below ba); clear ga ba) | (refine wpList_store_obj rfl 52 _ _ rfl w1.heap.size rfl (infL K1 M1 NU1 LI1 SZ1 TT1 U1 MT1) (infL 0 0 0 0 0 ⟨#[]⟩ 0 0) rfl 52 GA1.out OIT.out.2 rfl (by simp [Value.oneCell']) ?_; intro wb1 gb t6; have BB1 := Lib.hid (BA1.out.trans (t6.below B1.out.size)); have FB1 := Lib.hid (FA1.out.turn (tb t6) (fun q => Nat.lt_irrefl _ (F1.out.lt _ q))); clear gb t6))
        refine (PC.out wb1).mono ?_; rintro e w2 ⟨rfl, b2⟩
        have B2 := Lib.hid (belT BB1.out b2); have F2 := Lib.hid (FB1.out.below b2)
        clear b2
        go_wp2_with fail
        refine (LS2.out w2 F2.out).mono ?_; rintro e w3 ⟨rfl, b3⟩
        have B3 := Lib.hid (belT B2.out b3); have F3 := Lib.hid (F2.out.below b3)
        clear b3
        go_wp2_with (first | (refine wpList_alloc_obj rfl 52 rfl _ ZI.out ?_; intro wa2 ga ba; have GA2 := Lib.hid ga; have BA2 := Lib.hid (belT B3.out ba); have FA2 := Lib.hid (F3.out.below ba); clear ga ba) | (refine wpList_store_obj rfl 52 _ _ rfl w3.heap.size rfl (infL 0 M2 NU2 LI2 SZ2 TT2 U2 MT2) (infL 0 0 0 0 0 ⟨#[]⟩ 0 0) rfl 52 GA2.out OIT.out.2 rfl (by simp [Value.oneCell']) ?_; intro wb2 gb t6; have BB2 := Lib.hid (BA2.out.trans (t6.below B3.out.size)); have FB2 := Lib.hid (FA2.out.turn (tb t6) (fun q => Nat.lt_irrefl _ (F3.out.lt _ q))); have GX := Lib.hid gb; clear gb t6))
        refine (CK.out wb2).mono ?_; rintro e w4 ⟨rfl, b4⟩
        have B4 := Lib.hid (belT BB2.out b4); have F4 := Lib.hid (FB2.out.below b4)
        have c0 := (GX.out.below b4 GX.out.lt).get 0 rfl
        clear b4
        go_wp2_with fail
        refine (MK.out w4 B4.out F4.out).mono ?_; rintro e w5 ⟨rfl, o5, f5⟩
        have B5 := Lib.hid (B4.out.trans (o5.below HT.out B4.out.size))
        obtain ⟨T5, hT5⟩ : ∃ T5, T5 = Grow T w4 w5 := ⟨_, rfl⟩
        rw [← hT5] at f5
        have F5 := Lib.hid f5
        have T5B : Hid (∀ q, T5 q → w.heap.size ≤ q) := fun q hq => by
          rw [hT5] at hq
          rcases hq with hq | hq
          · exact HT.out q hq
          · exact Nat.le_trans B4.out.size hq.1
        clear o5 f5 hT5
        go_wp2_with fail
        refine (LS3.out w5 T5 F5.out).mono ?_; rintro e w6 ⟨rfl, b6⟩
        have B6 := Lib.hid (belT B5.out b6); have F6 := Lib.hid (F5.out.below b6)
        clear b6
        go_wp2_with (first | (refine wpList_alloc_obj rfl 52 rfl _ ZI.out ?_; intro wa3 ga ba; have GA3 := Lib.hid ga; have BA3 := Lib.hid (belT B6.out ba); have FA3 := Lib.hid (F6.out.below ba); clear ga ba) | (refine wpList_store_obj rfl 52 _ _ rfl w6.heap.size rfl (infL 0 448 NU3 1 SZ3 TT3 U3 MT3) (infL 0 0 0 0 0 ⟨#[]⟩ 0 0) rfl 52 GA3.out OIT.out.2 rfl (by simp [Value.oneCell']) ?_; intro wb3 gb t6; have BB3 := Lib.hid (BA3.out.trans (t6.below B6.out.size)); have FB3 := Lib.hid (FA3.out.turn (tb t6) (fun q => Nat.lt_irrefl _ (F6.out.lt _ q))); have d0 := gb.get 0 rfl; have d1 := gb.get 1 rfl; have d3 := gb.get 3 rfl; clear gb t6))
        refine (LI.out wb3 T5 FB3.out).mono ?_; rintro e w7 ⟨la, ln, lc, rfl, o7⟩
        have B7 := Lib.hid (BB3.out.trans (o7.below T5B.out BB3.out.size))
        clear o7
        go_wp2_with fail
        refine (AL.out w7 B7.out).mono ?_; rintro e w8 ⟨rfl, b8⟩
        have B8 := Lib.hid (belT B7.out b8)
        clear b8
        go_wp2_with fail
        go_ret
        exact ⟨rfl, B8.out⟩
end Go.Proofs.YthcbiohmghaobaaDoor
