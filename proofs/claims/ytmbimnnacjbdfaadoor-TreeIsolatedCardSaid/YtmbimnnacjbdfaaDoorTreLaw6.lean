/-
  The statement TreeIsolated: a walk.
-/
import Derived.Test.YtmbimnnacjbdfaaDoorPk12
import Derived.Test.YtmbimnnacjbdfaaDoorPk13
import Derived.Test.YtmbimnnacjbdfaaDoorTreIso
import Derived.Test.YtmbimnnacjbdfaaDoorTreREqu
namespace Go.Proofs.YtmbimnnacjbdfaaDoor
open Go.RowKit Go.Proofs.YtmbimnnacjbdfaaDoor.Fit Pnm Tre

set_option maxRecDepth 100000 in
set_option maxHeartbeats 8000000 in
theorem walk_TreeIsolated (a : Option Addr) (n cap : Nat) (ys : List NdS) (w : World) (V : Pxr.Vars w) (ha : ArgNds w a n cap ys) :
    Calls Tryd.prog 4 #[.slice a n cap] w fun e w' => e = .returned (.bool true) ∧ Below w.heap.size w w' := by
  have HV := Lib.hid (FVars.mk V)
  have HA := Lib.hid ha
  have S5 : Hid ((Tryd.prog.info? 5).map (·.size) = some 1) := by show _ = _; kernel_rfl
  have S9 : Hid ((Tryd.prog.info? 9).map (·.size) = some 1) := by show _ = _; kernel_rfl
  clear V ha
  go_enter Tryd.func4, Tryd.ntmps4
  go_wp2_with fail
  refine (large_any a n cap ys w HA.out).mono ?_; rintro e w1 ⟨R, rfl, hR, b1⟩
  have B1 := Lib.hid b1
  clear b1
  rcases hR with rfl | ⟨rfl, h40, _⟩
  · go_wp2_with fail
    refine (Tre.alive_any w1 (HV.out.go B1.out)).mono ?_; rintro e w2 ⟨rfl, b2⟩
    have B2 := Lib.hid (belT B1.out b2)
    go_wp2
    go_ret
    exact ⟨rfl, B2.out⟩
  have H1 := Lib.hid h40
  have n40 : (n : Int) ≤ 40 := by omega
  clear h40
  go_wp2_with fail
  refine (rcanon_any a n cap ys w1 (HA.out.below B1.out) H1.out).mono ?_; rintro e w2 ⟨r, rc, us, rfl, hu, eu, _, _, b2⟩
  have HU := Lib.hid hu; have EU := Lib.hid eu; have B2 := Lib.hid (belT B1.out b2)
  clear hu eu b2
  go_wp2_with fail
  refine (canon_any a n cap ys w2 (HA.out.below B2.out) H1.out).mono ?_; rintro e w3 ⟨c, cc, zs, rfl, hz, ez, hfr, hown, b3⟩
  have NC : Hid (n ≤ cc) := hz.c
  have ncc : (n : Int) ≤ cc := by have := hz.c; omega
  have ZN : Hid (zs.length = n) := hz.n
  obtain ⟨g, hg⟩ : ∃ g, 0 < n → c = some ⟨g, 0, none⟩ ∧ IsoW w2.heap.size g zs w3 := by
    rcases Nat.eq_zero_or_pos n with h0 | h0
    · exact ⟨0, fun h => by omega⟩
    · obtain ⟨b, off, y, rfl, _, _, _, _⟩ := hz.get 0 h0
      obtain ⟨h1, h2, h3⟩ := hown _ rfl
      have h2 : off = 0 := h2
      subst h2
      exact ⟨b, fun _ => ⟨rfl, iso_of hz hfr h1 h3 h0⟩⟩
  have HG := Lib.hid hg; have B3 := Lib.hid b3
  have DL : Hid (∀ y ∈ zs, y.n.d.length ≤ 140737488355328 ∧ y.n.d.length ≤ y.cap) := fun y hy => ⟨(hz.s y hy).l, (hz.s y hy).d.2.1⟩
  clear hz ez hfr hown b3 hg
  go_wp2_with fail
  go_loopw [17] (fun i wr => ∃ j : Nat, i = .int .i64 j ∧ j ≤ n ∧ Below w2.heap.size w2 wr ∧ (0 < n → IsoW w2.heap.size g zs wr)) (fun i _ => n - (intOf i).toNat)
  case atStart => exact ⟨0, rfl, Nat.zero_le _, B3.out, fun h => (HG.out h).2⟩
  case round =>
    obtain ⟨j, rfl, hj, hB, hI⟩ := hrel
    by_cases hjn : j < n
    · obtain ⟨rfl, _⟩ := HG.out (by omega)
      have IS := Lib.hid (hI (by omega)); have HB := Lib.hid hB
      obtain ⟨y, hy⟩ : ∃ y, zs[j]? = some y := ⟨_, List.getElem?_eq_getElem (by rw [ZN.out]; exact hjn)⟩
      have HY := Lib.hid hy
      obtain ⟨d1, d2⟩ := DL.out y (List.mem_of_getElem? hy)
      obtain ⟨L, hL⟩ := named y.n.d.length
      obtain ⟨c4, _, _⟩ := hI (by omega) |>.at_ j y hy
      rw [← hL.out] at d1 d2 c4
      have l1 : (L : Int) ≤ 140737488355328 := by omega
      have l2 : (L : Int) ≤ y.cap := by omega
      have j1 : (j : Int) < n := by omega
      have JN := Lib.hid hjn
      clear hI hB hy hjn hj d1 d2
      go_wp2_with fail
      go_loopw [26] (fun i wq => ∃ k : Nat, i = .int .i64 k ∧ k ≤ L ∧ Below w2.heap.size w2 wq ∧ IsoW w2.heap.size g zs wq) (fun i _ => L - (intOf i).toNat)
      case atStart => exact ⟨0, rfl, Nat.zero_le _, HB.out, IS.out⟩
      case round =>
        obtain ⟨k, rfl, hk, hq, hi⟩ := hrel
        clear c4
        have QB := Lib.hid hq; have QI := Lib.hid hi
        obtain ⟨c4, ⟨p, c1⟩, c5⟩ := hi.at_ j y HY.out
        rw [← hL.out] at c4 c5
        have F1 := hi.fz (j * 6 + 1)
        clear hq hi
        by_cases hkl : k < L
        · obtain ⟨b, e1, e2, e3, e4, e5⟩ := c5 (by omega)
          obtain ⟨x, cx⟩ := e5 k hkl
          have E3 := Lib.hid e3; have E2 := Lib.hid e2
          have fz := e4 k
          rw [e1] at c4
          have k1 : (k : Int) < L := by omega
          clear c1 c5 e1 e2 e3 e4 e5
          go_wp2_with fail
          exact ⟨⟨k + 1, by go_num, by omega, QB.out.setCell E2.out _, QI.out.data E3.out _⟩, by simp [intOf]; omega⟩
        · obtain rfl : k = L := by omega
          clear c5
          go_wp2_with fail
          exact ⟨⟨j + 1, by go_num, by have := JN.out; omega, QB.out.setCell QI.out.big _, fun _ => QI.out.path HY.out _⟩, by simp [intOf]; have := JN.out; omega⟩
    · obtain rfl : j = n := by omega
      have HB := Lib.hid (belT B2.out hB); have HB2 := Lib.hid hB
      have HU2 := Lib.hid (HU.out.below hB)
      clear hI hB
      go_wp2_with fail
      refine (Tre.alive_any wr (HV.out.go HB.out)).mono ?_; rintro e w4 ⟨rfl, b4⟩
      have B4 := Lib.hid (belT HB.out b4); have HU4 := Lib.hid (HU2.out.below b4)
      clear b4
      go_wp2_with fail
      refine (rcanon_any a j cap ys w4 (HA.out.below B4.out) H1.out).mono ?_; rintro e w5 ⟨r', rc', vs, rfl, hv, ev, _, _, b5⟩
      have HW := Lib.hid hv; have EV := Lib.hid ev; have B5 := Lib.hid (belT B4.out b5); have HU5 := Lib.hid (HU4.out.below b5)
      clear hv ev b5
      go_wp2_with fail
      refine (rsame_any r j rc us r' j rc' vs w5 HU5.out HW.out).mono ?_; rintro e w6 ⟨Bs, rfl, hs, b6⟩
      obtain rfl : Bs = true := hs.mpr (by rw [EU.out, EV.out])
      have B6 := Lib.hid (belT B5.out b6)
      clear hs b6
      go_wp2
      go_ret
      exact ⟨rfl, B6.out⟩
end Go.Proofs.YtmbimnnacjbdfaaDoor
