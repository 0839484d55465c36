/-
  CstringPrefix, walked.
-/
import Derived.Test.YtbchehpjimgapaaDoorCstAlive
import Derived.Test.YtbchehpjimgapaaDoorCstParse
namespace Go.Proofs.YtbchehpjimgapaaDoor
open Go.RowKit

theorem BytesIn.bd {w : World} {a : Option Addr} {zs : List Int} (h : BytesIn w a zs) : ∀ z ∈ zs, 0 ≤ z ∧ z ≤ 255 := by
  rcases h with h | ⟨_, _, _, _, h⟩
  · subst h; simp
  · exact h.2

theorem own_shape' {w : World} {base n : Nat} {e : TypeId} {v : Value} {xs : List Value} (h : w.ownsRow base e 1 v n xs) (hn : 0 < n) : ∃ g cap, v = .slice (some ⟨g, 0, none⟩) n cap ∧ base ≤ g ∧ n ≤ cap ∧ cap ≤ maxLen := by
  rcases h.2 with ⟨_, h'⟩ | ⟨g', cap', cur, hv, hb', _, h1, h2, _⟩
  · omega
  · exact ⟨g', cap', hv, hb', h1, h2⟩

theorem strOfNums_app (l m : List Int) : strOfNums l ++ strOfNums m = strOfNums (l ++ m) := by
  apply ByteArray.ext
  rw [ByteArray.data_append]
  simp [strOfNums]

theorem more_ok {zs : List Int} (h : cpE zs = 0) (m : Nat) (hm : zs.length + m ≤ 256) : cpE (zs ++ List.replicate m 0) = 0 ∧ cpS (zs ++ List.replicate m 0) = cpS zs := by
  obtain ⟨h1, h2, h3⟩ := cpE_zero.1 h
  have e : cpE (zs ++ List.replicate m 0) = 0 := cpE_zero.2 ⟨by simp; omega, by simp; omega, by rw [trimZ_zeros]; exact h3⟩
  exact ⟨e, by rw [cpS_ok e, cpS_ok h, trimZ_zeros]⟩

/-- a byte behind padding -/
theorem odd_bad {zs : List Int} (h : cpE zs = 0) (m : Nat) (hm : zs.length + m ≤ 200) (hp : (trimZ zs).length < zs.length + m) {c : Int} (hc : c ≠ 0) : cpE (zs ++ List.replicate m 0 ++ [c]) = 6 ∧ cpS (zs ++ List.replicate m 0 ++ [c]) = [] := by
  obtain ⟨h1, h2, h3⟩ := cpE_zero.1 h
  have hin : (0 : Int) ∈ trimZ (zs ++ List.replicate m 0 ++ [c]) := by
    rw [trimZ_snoc_ne _ hc]
    obtain ⟨k, hk⟩ := trimZ_back zs
    have hl := congrArg List.length hk
    simp at hl
    rw [hk]
    rcases k with _ | k
    · rcases m with _ | m
      · omega
      · simp
    · simp
  have e : ¬ ((zs ++ List.replicate m 0 ++ [c]).length < 1 ∨ 256 < (zs ++ List.replicate m 0 ++ [c]).length) := by simp; omega
  exact ⟨by unfold cpE; rw [if_neg e, if_pos hin], by unfold cpS; rw [if_neg e, if_pos hin]⟩

/-- a byte behind a full field -/
theorem odd_full {zs : List Int} (h : cpE zs = 0) (m : Nat) (hm : zs.length + m ≤ 200) (hp : ¬ (trimZ zs).length < zs.length + m) {c : Int} (hc : c ≠ 0) : cpE (zs ++ List.replicate m 0 ++ [c]) = 0 ∧ cpS (zs ++ List.replicate m 0 ++ [c]) = cpS zs ++ [c] := by
  obtain ⟨h1, h2, h3⟩ := cpE_zero.1 h
  obtain ⟨k, hk⟩ := trimZ_back zs
  have hl := congrArg List.length hk
  simp at hl
  obtain rfl : k = 0 := by omega
  obtain rfl : m = 0 := by omega
  have hk' : zs = trimZ zs := by simpa using hk
  have et : trimZ (zs ++ List.replicate 0 0 ++ [c]) = zs ++ [c] := by rw [trimZ_snoc_ne _ hc]; simp
  have e : cpE (zs ++ List.replicate 0 0 ++ [c]) = 0 := cpE_zero.2 ⟨by simp, by simp; omega, by
    rw [et]
    intro h
    rcases List.mem_append.1 h with h | h
    · rw [← hk'] at h3; exact h3 h
    · exact hc (List.mem_singleton.1 h).symm⟩
  exact ⟨e, by rw [cpS_ok e, et, cpS_ok h, ← hk']⟩

theorem odd_zero {zs : List Int} (h : cpE zs = 0) (m : Nat) (hm : zs.length + m ≤ 200) : cpE (zs ++ List.replicate m 0 ++ [0]) = 0 ∧ cpS (zs ++ List.replicate m 0 ++ [0]) = cpS zs := by
  have := more_ok h (m + 1) (by omega)
  rwa [List.replicate_succ', ← List.append_assoc] at this

set_option maxRecDepth 10000 in
set_option maxHeartbeats 4000000 in
theorem walk_CstringPrefix (a : Option Addr) (len cap : Nat) (zs : List Int) (n c : Int) (w : World) (h : ArgInts .u8 w a len cap zs) (hn : (Lit.int .u8 n).wf = true) (hc : (Lit.int .u8 c).wf = true) :
    Calls Tryd.prog 5 #[.slice a len cap, .int .u8 n, .int .u8 c] w fun e w' => e = .returned (.bool true) ∧ Below w.heap.size w w' := by
  have hlc := h.2.1
  have HM := Lib.hid h.2.2.1
  have hm : len ≤ maxLen := Nat.le_trans hlc h.2.2.1
  have hz := Lib.hid h.1
  have hb := Lib.hid h.bytes
  clear h
  unfold maxLen at hm
  obtain ⟨hn0, hn1⟩ := bounds_u8 hn
  obtain ⟨hc0, hc1⟩ := bounds_u8 hc
  clear hn hc
  by_cases hl : (100 : Int) < len
  · go_enter Tryd.func5, Tryd.ntmps5
    go_wp2_with fail
    refine (alive_any _).mono ?_; rintro e w1 ⟨rfl, hb1⟩
    go_wp2
    go_ret
    exact ⟨rfl, hb1⟩
  by_cases he : cpE zs = 0
  · obtain ⟨S, HS⟩ := named (strOfNums (cpS zs))
    have HE := Lib.hid he; clear he
    obtain ⟨m, HMM⟩ : ∃ m : Nat, Hid (n % 100 = m) := ⟨(n % 100).toNat, by show _ = _; omega⟩
    have hm99 : m ≤ 99 := by have := HMM.out; omega
    obtain ⟨i0, HI⟩ := info_u8 Tryd.info5
    have hlen1 : 1 ≤ len ∧ len ≤ 100 := by have := (cpE_zero.1 HE.out).1; rw [hz.out] at this; omega
    obtain ⟨hlen1, hlen2⟩ := hlen1
    go_enter Tryd.func5, Tryd.ntmps5
    go_wp2_with fail
    refine (parse_in _ _ _ zs _ hb.out hz.out hlc HM.out).mono ?_; rintro e w3 ⟨rfl, rfl⟩
    rw [HE.out, ← HS.out]
    go_wp2_with (first | (at_builtin; refine wpList_append_in rfl _ _ 22 rfl w.heap.size 5 i0 Tryd.underlying22 HI _ 0 [] rfl (World.ownsRow_lit w #[] 0 (Nat.le_refl _) (Nat.zero_le _) rfl) _ _ _ zs rfl (hb.out.below ((Below.refl _ _).alloc (Nat.le_refl _) _)) hz.out (by omega) (by simp) ?_; intro v1 w1 hown1 hb1) | (at_builtin; refine wpList_append_zeros rfl _ _ 22 5 rfl w.heap.size 5 .u8 i0 Tryd.underlying22 Tryd.underlying5 HI _ _ _ rfl hown1 .u8 _ m rfl HMM.out (by omega) (by have := hb1.size; simp at this; omega) ?_; intro v2 w2 hown2 hb2))
    rw [Nat.zero_add, List.nil_append] at hown2
    have hw12 : w.heap.size ≤ w2.heap.size := by have h1 := hb1.size; have h2 := hb2.size; simp at h1; omega
    have hbel2 : Below w.heap.size w w2 := ((Below.refl _ _).alloc (Nat.le_refl _) _).trans (hb1.trans hb2)
    obtain ⟨g, cp, rfl, hgb, hgc, hcm⟩ := own_shape' hown2 (by omega)
    have HCM := Lib.hid hcm; clear hcm
    have hMb : ∀ z ∈ zs ++ List.replicate m 0, 0 ≤ z ∧ z ≤ 255 := fun z hz => (List.mem_append.1 hz).elim (hb.out.bd z) (fun h => by have := List.eq_of_mem_replicate h; omega)
    have HMO := Lib.hid (BytesIn.of_own hown2 hMb)
    have HML : Hid ((zs ++ List.replicate m 0).length = len + m) := by show _ = _; simp [hz.out]
    have HMK := Lib.hid (more_ok HE.out m (by rw [hz.out]; omega))
    clear hown2 hown1 hb1 hb2 hMb
    refine (parse_in _ _ _ _ _ HMO.out HML.out hgc HCM.out).mono ?_; rintro e w3 ⟨rfl, rfl⟩
    rw [HMK.out.1, HMK.out.2, ← HS.out]
    go_wp2_with (first | (at_builtin; refine wpList_append_in rfl _ _ 22 rfl w2.heap.size 5 i0 Tryd.underlying22 HI _ 0 [] rfl (World.ownsRow_lit w2 #[] 0 (Nat.le_refl _) (Nat.zero_le _) rfl) _ _ _ (zs ++ List.replicate m 0) rfl (HMO.out.below ((Below.refl _ _).alloc (Nat.le_refl _) _)) HML.out (by omega) (by simp) ?_; intro v3 w3 hown3 hb3) | (at_builtin; refine wpList_append_in rfl _ _ 22 rfl w2.heap.size 5 i0 Tryd.underlying22 HI _ _ _ rfl (hown3.alloc _) _ _ _ [c] rfl (BytesIn.new_one _ _ _ hc0 hc1) rfl (by omega) (by have := hb3.size; simp at this ⊢; omega) ?_; intro v4 w4 hown4 hb4))
    rw [Nat.zero_add, List.nil_append] at hown4
    have hbel4 : Below w2.heap.size w2 w4 := ((Below.refl _ _).alloc (Nat.le_refl _) _).trans (hb3.trans (((Below.refl _ _).alloc (by have := hb3.size; simp at this ⊢; omega) _).trans hb4))
    obtain ⟨g4, cp4, rfl, hgb4, hgc4, hcm4⟩ := own_shape' hown4 (by omega)
    have HCM4 := Lib.hid hcm4; clear hcm4
    have hOb : ∀ z ∈ zs ++ List.replicate m 0 ++ [c], 0 ≤ z ∧ z ≤ 255 := fun z hz => (List.mem_append.1 hz).elim (HMO.out.bd z) (fun h => by rw [List.mem_singleton.1 h]; exact ⟨hc0, hc1⟩)
    have HOO := Lib.hid (BytesIn.of_own hown4 hOb)
    have HOL : Hid ((zs ++ List.replicate m 0 ++ [c]).length = len + m + 1) := by show _ = _; rw [List.length_append, HML.out]; rfl
    clear hown3 hown4 hb3 hb4 hOb
    refine (parse_in _ _ _ _ _ HOO.out HOL.out hgc4 HCM4.out).mono ?_; rintro e w5 ⟨rfl, rfl⟩
    have hbel : Below w.heap.size w w4 := hbel2.trans (hbel4.mono hw12)
    have hSs : S.size = (trimZ zs).length := by rw [HS.out, strOfNums_size, cpS_ok HE.out]
    have hS1 : S.size ≤ 100 := by have := trimZ_length zs; rw [hz.out] at this; omega
    by_cases hc2 : c = 0
    · subst hc2
      have HO := odd_zero HE.out m (by rw [hz.out]; omega)
      rw [HO.1, HO.2, ← HS.out]
      clear HO hSs
      by_cases hp : (S.size : Int) < (len : Int) + m
      · go_wp2_with fail
        refine (alive_any _).mono ?_; rintro e w6 ⟨rfl, hb6⟩
        go_wp2
        go_ret
        exact ⟨rfl, hbel.trans (hb6.mono hbel.size)⟩
      · go_wp2_with fail
        refine (alive_any _).mono ?_; rintro e w6 ⟨rfl, hb6⟩
        go_wp2
        go_ret
        exact ⟨rfl, hbel.trans (hb6.mono hbel.size)⟩
    · have hc3 : (c == 0) = false := by simpa using hc2
      have hc4 : (c != 0) = true := by simpa using hc2
      by_cases hp : (S.size : Int) < (len : Int) + m
      · have HO := odd_bad HE.out m (by rw [hz.out]; omega) (by rw [hz.out]; omega) hc2
        rw [HO.1, HO.2]
        clear HO hSs hc2
        go_wp2_with fail
        refine (alive_any _).mono ?_; rintro e w6 ⟨rfl, hb6⟩
        go_wp2
        go_ret
        exact ⟨rfl, hbel.trans (hb6.mono hbel.size)⟩
      · have HO := odd_full HE.out m (by rw [hz.out]; omega) (by rw [hz.out]; omega) hc2
        obtain ⟨R, HR⟩ := named (strOfNums [c])
        have hR : R.size = 1 := by rw [HR.out]; rfl
        have hcv := run_str_in (P := Tryd.prog) Tryd.underlying22 Tryd.underlying5 Tryd.underlying9 (BytesIn.new_one w4 c 5 hc0 hc1) 1 1 rfl
        rw [← HR.out] at hcv
        rw [HO.1, HO.2, ← strOfNums_app, ← HS.out, ← HR.out]
        clear HO hSs hc2
        go_wp2_with fail
        refine (alive_any _).mono ?_; rintro e w6 ⟨rfl, hb6⟩
        go_wp2
        go_ret
        exact ⟨rfl, hbel.trans (((Below.refl _ _).alloc hbel.size _).trans (hb6.mono (by have := hbel.size; simp; omega)))⟩
  · have he2 : (cpE zs != 0) = true := by simpa using he
    have HE := Lib.hid he; clear he
    go_enter Tryd.func5, Tryd.ntmps5
    go_wp2_with fail
    refine (parse_in _ _ _ zs _ hb.out hz.out hlc HM.out).mono ?_; rintro e w3 ⟨rfl, rfl⟩
    go_wp2_with fail
    refine (alive_any _).mono ?_; rintro e w1 ⟨rfl, hb1⟩
    go_wp2
    go_ret
    exact ⟨rfl, hb1⟩

end Go.Proofs.YtbchehpjimgapaaDoor
