/-
  The statement EntryEncodeMatchesReference: a walk.
-/
import Derived.Test.YtbbaleambgaanaaGreatDoorPk20
import Derived.Test.YtbbaleambgaanaaGreatDoorPk26
import Derived.Test.YtbbaleambgaanaaGreatDoorPk27
namespace Go.Proofs.YtbbaleambgaanaaGreatDoor
open Go.RowKit Go.Proofs.YtbbaleambgaanaaGreatDoor.Fit Pxr Pnm Etr

set_option maxHeartbeats 8000000 in
set_option maxRecDepth 100000 in
theorem walk_EntryEncodeMatchesReference (k : Int) (p : ByteArray) (m : Int) (t : ByteArray) (s : Int) (a : Option Addr) (len cap : Nat) (zs : List Int) (w : World) (V : FVars w) (_ : (Lit.int .i64 k).wf = true) (hp : p.size ≤ maxLen) (_ : (Lit.int .i64 m).wf = true) (ht : t.size ≤ maxLen) (_ : (Lit.int .i64 s).wf = true) (ha : ArgInts .u8 w a len cap zs) :
    Calls Tryz.prog 3 #[.agg (enV k p m t s).toArray, .slice a len cap] w fun e w' => e = .returned (.bool true) ∧ Below w.heap.size w w' := by
  have EN := Lib.hid fun w' (hb : Below w.heap.size w w') => penc_any ⟨k, p, m, t, s⟩ w' (V.go hb) hp ht
  have RN := Lib.hid fun w' => renc_any ⟨k, p, m, t, s⟩ w' hp ht
  have LG := Lib.hid fun w' => large_any k p m t s w' hp ht
  have AL := Lib.hid fun w' (hb : Below w.heap.size w w') => Etr.alive_any w' (V.go hb)
  obtain ⟨R, hR⟩ := named (enZ ⟨k, p, m, t, s⟩)
  obtain ⟨E, hE⟩ := named (ckE ⟨k, p, m, t, s⟩)
  rw [← hR.out, ← hE.out] at EN RN
  have HAR := Lib.hid ha.bytes
  have HLN : Hid (zs.length = len) := ha.1
  have hlm : (len : Int) ≤ 9223372036854775807 := by have h1 := ha.2.1; have h2 := ha.2.2.1; unfold maxLen at h2; omega
  have hlm' : len ≤ 9223372036854775807 := by omega
  have HLM := Lib.hid hlm'
  obtain ⟨zb, hzb⟩ : ∃ zb : Bool, zb = true ↔ zeroB zs := by
    by_cases hz : zeroB zs
    · exact ⟨true, by simp [hz]⟩
    · exact ⟨false, by simp [hz]⟩
  have HZB := Lib.hid hzb
  have ZQ : Hid ((zb == zb) = true) := by show _ = _; simp
  clear V hp ht ha hzb hlm'
  go_enter Tryz.func3, Tryz.ntmps3
  go_wp2_with (first | (refine wpList_box_obj rfl 23 _ rfl (enV k p m t s) rfl ?_; intro w1 g1 b1; have E1 := Lib.hid g1; have B1 := Lib.hid b1; have c0 := E1.out.get 0 rfl; have c1 := E1.out.get 1 rfl; have c2 := E1.out.get 2 rfl; have c3 := E1.out.get 3 rfl; have c4 := E1.out.get 4 rfl; clear g1 b1))
  refine (LG.out w1).mono ?_; rintro e w2 ⟨BB, rfl, hBB, b2⟩
  have E2 := Lib.hid (E1.out.below b2 E1.out.lt)
  have B2 := Lib.hid (belT B1.out b2)
  clear b2 c0 c1 c2 c3 c4
  rcases hBB with rfl | rfl
  · by_cases hl : (3000 : Int) < len
    · go_wp2_with fail
      refine (AL.out w2 B2.out).mono ?_; rintro e w3 ⟨rfl, b3⟩
      have B3 := Lib.hid (belT B2.out b3)
      clear b3
      go_wp2
      go_ret
      exact ⟨rfl, B3.out⟩
    · have c0 := E2.out.get 0 rfl; have c1 := E2.out.get 1 rfl; have c2 := E2.out.get 2 rfl; have c3 := E2.out.get 3 rfl; have c4 := E2.out.get 4 rfl
      go_wp2_with fail
      refine (EN.out w2 B2.out).mono ?_; rintro e w3 ⟨b, n, c, rfl, hn, hc, hm, hI, _, b3⟩
      have E3 := Lib.hid (E2.out.below b3 E2.out.lt)
      have B3 := Lib.hid (belT B2.out b3)
      have I3 := Lib.hid hI; have HN := Lib.hid hn
      clear b3 hn hc hm hI c0 c1 c2 c3 c4
      have c0 := E3.out.get 0 rfl; have c1 := E3.out.get 1 rfl; have c2 := E3.out.get 2 rfl; have c3 := E3.out.get 3 rfl; have c4 := E3.out.get 4 rfl
      go_wp2_with fail
      refine (RN.out w3).mono ?_; rintro e w4 ⟨b', n', c', rfl, hn', _, _, hI', _, b4⟩
      have B4 := Lib.hid (belT B3.out b4)
      have I4 := Lib.hid (I3.out.below b4); have J4 := Lib.hid hI'; have HN' := Lib.hid hn'
      clear b4 hn' hI' c0 c1 c2 c3 c4
      go_wp2_with fail
      refine (AL.out w4 B4.out).mono ?_; rintro e w5 ⟨rfl, b5⟩
      have B5 := Lib.hid (belT B4.out b5)
      have I5 := Lib.hid (I4.out.below b5); have J5 := Lib.hid (J4.out.below b5)
      clear b5
      have q1 := run_str_in (P := Tryz.prog) Tryz.underlying24 Tryz.underlying5 Tryz.underlying9 I5.out n c HN.out
      have q2 := run_str_in (P := Tryz.prog) Tryz.underlying24 Tryz.underlying5 Tryz.underlying9 J5.out n' c' HN'.out
      obtain ⟨S, hS⟩ := named (strOfNums R)
      rw [← hS.out] at q1 q2
      have HA5 : Hid (BytesIn w5 a zs) := HAR.out.below B5.out
      go_wp2_with fail
      refine (piszero_any a len cap zs w5 HA5.out.inK HLN.out HLM.out zb HZB.out).mono ?_; rintro e w6 ⟨rfl, rfl⟩
      go_wp2_with fail
      refine (riszero_any a len cap zs w5 HA5.out HLN.out HLM.out zb HZB.out).mono ?_; rintro e w6 ⟨rfl, rfl⟩
      have zq := ZQ.out
      go_wp2
      go_ret
      exact ⟨rfl, B5.out⟩
  · go_wp2_with fail
    refine (AL.out w2 B2.out).mono ?_; rintro e w3 ⟨rfl, b3⟩
    have B3 := Lib.hid (belT B2.out b3)
    clear b3
    go_wp2
    go_ret
    exact ⟨rfl, B3.out⟩
end Go.Proofs.YtbbaleambgaanaaGreatDoor
