/-
  Layer 10: plain mathematics: entries, where their values are placed, what Merge composes. No memory.
-/
import Derived.Test.YtokjmehecfjhmaaDoorPxrRec
import Derived.Test.YtokjmehecfjhmaaDoorPnmMath
import Derived.Lib.ParseIntBTie
import Derived.Lib.AtoiTie
import Derived.Test.YtokjmehecfjhmaaDoorPxrVars
import Derived.Test.YtokjmehecfjhmaaDoorSObj
import Derived.Test.YtokjmehecfjhmaaDoorArr
import Derived.Test.YtokjmehecfjhmaaDoorUstHd0
import Derived.Test.YtokjmehecfjhmaaDoorHdEq
import Derived.Test.YtokjmehecfjhmaaDoorPxrRz
import Derived.Test.YtokjmehecfjhmaaDoorRecRow
import Derived.Test.YtokjmehecfjhmaaDoorStepObj
import Derived.Test.YtokjmehecfjhmaaDoorSwitch
import Derived.Deep.RegionHeld3
namespace Go.Proofs.YtokjmehecfjhmaaDoor.Fit
open Go.Lib Go.RowKit Pxr Pnm

/-- an entry -/
structure Ent where
  k : Int
  p : ByteArray
  m : Int
  t : ByteArray
  s : Int
/-- a header -/
structure Hd where
  T : Int
  nm : ByteArray
  pf : ByteArray
  lk : ByteArray
  md : Int
  sz : Int
abbrev emp : ByteArray := { data := #[] }

def tyZ (k : Int) : Int := if k = 0 then 53 else if k = 1 then 48 else if k = 2 then 50 else 49
def kdZ (T : Int) : Int := if T = 53 then 0 else if T = 48 then 1 else if T = 50 then 2 else if T = 49 then 3 else -1
theorem kd_ty {k : Int} (h0 : 0 ≤ k) (h4 : k < 4) : kdZ (tyZ k) = k := by
  rcases (show k = 0 ∨ k = 1 ∨ k = 2 ∨ k = 3 by omega) with rfl | rfl | rfl | rfl <;> decide
theorem ty_known {k : Int} (h0 : 0 ≤ k) (h4 : k < 4) : tyZ k = 53 ∨ tyZ k = 48 ∨ tyZ k = 50 ∨ tyZ k = 49 := by
  rcases (show k = 0 ∨ k = 1 ∨ k = 2 ∨ k = 3 by omega) with rfl | rfl | rfl | rfl <;> decide

/-! Check -/
def tgE (k : Int) (t : ByteArray) : Int := if k = 2 then chkT t else if k = 3 then chE (numsOf t) else if t = emp then 0 else 2
def szE (k s : Int) : Int := if k = 1 then (if s < 0 ∨ 1099511627776 < s then 3 else 0) else if s = 0 then 0 else 2
def ckE (e : Ent) : Int :=
  if e.k < 0 ∨ 4 ≤ e.k then 8 else if chE (numsOf e.p) ≠ 0 then chE (numsOf e.p) else if e.m < 0 ∨ 4095 < e.m ∨ (e.k = 2 ∧ e.m ≠ 0) then 16 else
    if tgE e.k e.t ≠ 0 then tgE e.k e.t else szE e.k e.s

structure Ok (e : Ent) : Prop where
  k0 : 0 ≤ e.k
  k4 : e.k < 4
  path : chE (numsOf e.p) = 0
  m0 : 0 ≤ e.m
  m1 : e.m ≤ 4095
  mS : e.k = 2 → e.m = 0
  tg : tgE e.k e.t = 0
  sz : szE e.k e.s = 0
theorem ck_ok {e : Ent} : ckE e = 0 ↔ Ok e := by
  unfold ckE
  constructor
  · intro h
    by_cases h1 : e.k < 0 ∨ 4 ≤ e.k
    · rw [if_pos h1] at h; omega
    · rw [if_neg h1] at h
      by_cases h2 : chE (numsOf e.p) ≠ 0
      · rw [if_pos h2] at h; exact absurd h h2
      · rw [if_neg h2] at h
        by_cases h3 : e.m < 0 ∨ 4095 < e.m ∨ (e.k = 2 ∧ e.m ≠ 0)
        · rw [if_pos h3] at h; omega
        · rw [if_neg h3] at h
          by_cases h4 : tgE e.k e.t ≠ 0
          · rw [if_pos h4] at h; exact absurd h h4
          · rw [if_neg h4] at h
            exact ⟨by omega, by omega, Decidable.byContradiction h2, by omega, by omega, by omega, Decidable.byContradiction h4, h⟩
  · intro h
    have := h.k0; have := h.k4; have := h.m0; have := h.m1; have := h.mS
    rw [if_neg (by omega), if_neg (by rw [h.path]; simp), if_neg (by omega), if_neg (by rw [h.tg]; simp)]
    exact h.sz

theorem emp_size {t : ByteArray} : t = emp ↔ t.size = 0 := by
  constructor
  · rintro rfl; rfl
  · intro h; exact ByteArray.ext (Array.eq_empty_of_size_eq_zero h)
theorem path_pos {p : ByteArray} (h : chE (numsOf p) = 0) : p ≠ emp ∧ p.size ≤ 65536 := by
  obtain ⟨h1, h2⟩ := chE_zero.1 h
  rw [numsOf_length] at h1
  refine ⟨?_, h1⟩
  rintro rfl
  have := (h2 [] (by rw [show numsOf emp = [] from rfl]; exact List.mem_cons_self)).1
  exact this rfl
theorem first_at {x : Int} : ∀ {zs : List Int}, x ∈ zs → ∃ a c, zs = a ++ x :: c ∧ x ∉ a
  | [], h => by cases h
  | y :: r, h => by
    by_cases hy : y = x
    · exact ⟨[], r, by rw [hy]; rfl, by simp⟩
    · rcases List.mem_cons.1 h with e | h'
      · exact absurd e.symm hy
      · obtain ⟨a, c, e, ha⟩ := first_at h'
        refine ⟨y :: a, c, by rw [e]; rfl, ?_⟩
        rw [List.mem_cons]
        rintro (e' | e')
        · exact hy e'.symm
        · exact ha e'
theorem path_nozero : ∀ {zs : List Int}, pathOk zs → (0 : Int) ∉ zs := by
  intro zs
  induction hn : zs.length using Nat.strongRecOn generalizing zs with
  | _ n ih =>
    intro h
    by_cases h47 : (47 : Int) ∈ zs
    · obtain ⟨a, c, rfl, ha⟩ := first_at h47
      obtain ⟨p1, p2⟩ := (pathOk_app a c).1 h
      have i1 := ((pathOk_one ha).1 p1).2.2.2
      have i2 := ih c.length (by rw [← hn, List.length_append, List.length_cons]; omega) rfl p2
      rw [List.mem_append, List.mem_cons]
      rintro (h' | h' | h')
      · exact i1 h'
      · omega
      · exact i2 h'
    · exact ((pathOk_one h47).1 h).2.2.2
/-- what a target can be -/
theorem tg_cases {k : Int} {t : ByteArray} (h : tgE k t = 0) : t.size ≤ 65536 ∧ ((k ≠ 2 ∧ k ≠ 3 ∧ t = emp) ∨ ((k = 2 ∨ k = 3) ∧ t ≠ emp)) ∧ (t = emp ∨ chkT t = 0) := by
  unfold tgE at h
  by_cases h2 : k = 2
  · rw [if_pos h2] at h
    have h' := h
    unfold chkT at h
    by_cases hv : 65536 < t.size
    · rw [if_pos hv] at h; omega
    · rw [if_neg hv] at h
      by_cases he : t.size = 0 ∨ (0 : Int) ∈ numsOf t
      · rw [if_pos he] at h; omega
      · exact ⟨by omega, .inr ⟨.inl h2, fun e => he (.inl (emp_size.1 e))⟩, .inr h'⟩
  · rw [if_neg h2] at h
    by_cases h3 : k = 3
    · rw [if_pos h3] at h
      obtain ⟨a, b⟩ := path_pos h
      refine ⟨b, .inr ⟨.inr h3, a⟩, .inr ?_⟩
      unfold chkT
      rw [if_neg (by omega), if_neg]
      rintro (e | e)
      · exact a (emp_size.2 e)
      · exact absurd e (path_nozero (chE_zero.1 h).2)
    · rw [if_neg h3] at h
      by_cases ht : t = emp
      · subst ht; exact ⟨by decide, .inl ⟨h2, h3, rfl⟩, .inl rfl⟩
      · rw [if_neg ht] at h; omega
theorem sz_cases {k s : Int} (h : szE k s = 0) : 0 ≤ s ∧ s ≤ 1099511627776 ∧ (k ≠ 1 → s = 0) := by
  unfold szE at h
  by_cases h1 : k = 1
  · rw [if_pos h1] at h
    by_cases h2 : s < 0 ∨ 1099511627776 < s
    · rw [if_pos h2] at h; omega
    · omega
  · rw [if_neg h1] at h
    by_cases h2 : s = 0
    · omega
    · rw [if_neg h2] at h; omega
/-! Plan -/
def plH (e : Ent) : Hd := ⟨tyZ e.k, strOfNums (splN (numsOf e.p)), strOfNums (splP (numsOf e.p)), if e.t.size ≤ 100 then e.t else emp, e.m, if e.s ≤ 8589934591 then e.s else 0⟩
def plT (e : Ent) : List Rec := if e.t.size ≤ 100 then [] else [(kLink, e.t)]
def plP (e : Ent) : List Rec := if splB (numsOf e.p) = true then [] else [(kPath, e.p)]
def plS (e : Ent) : List Rec := if e.s ≤ 8589934591 then [] else [(kSize, strOfNums (decD e.s.toNat))]
def plL (e : Ent) : List Rec := plT e ++ (plP e ++ plS e)

theorem numsOf_sub {s : ByteArray} {zs : List Int} (h : ∀ z ∈ zs, z ∈ numsOf s) : numsOf (strOfNums zs) = zs := numsOf_strOfNums fun z hz => numsOf_bd s z (h z hz)
/-- the two halves, where there are two -/
theorem spl_cases (p : ByteArray) : (splB (numsOf p) = true ∧ splP (numsOf p) = [] ∧ splN (numsOf p) = numsOf p ∧ p.size ≤ 100) ∨
    (splB (numsOf p) = true ∧ splP (numsOf p) ≠ [] ∧ splN (numsOf p) ≠ [] ∧ numsOf p = splP (numsOf p) ++ 47 :: splN (numsOf p) ∧ (splP (numsOf p)).length ≤ 155 ∧ (splN (numsOf p)).length ≤ 100 ∧ 100 < p.size) ∨
    (splB (numsOf p) = false ∧ splP (numsOf p) = [] ∧ splN (numsOf p) = [] ∧ 100 < p.size) := by
  by_cases h : (numsOf p).length ≤ 100
  · obtain ⟨a, b, c⟩ := spl_short h
    rw [numsOf_length] at h
    exact .inl ⟨c, a, b, h⟩
  · rcases spl_long h with ⟨i, _, ⟨h1, h2, h3, h4, _⟩, _, a, b, c, d⟩ | ⟨_, a, b, c⟩
    · refine .inr (.inl ⟨c, ?_, ?_, ?_, ?_, ?_, by rw [numsOf_length] at h; omega⟩)
      · rw [a]; intro e; have := congrArg List.length e; rw [List.length_take, List.length_nil] at this; omega
      · rw [b]; intro e; have := congrArg List.length e; rw [List.length_drop, List.length_nil] at this; omega
      · rw [a, b]; exact d
      · rw [a, List.length_take]; omega
      · rw [b, List.length_drop]; omega
    · exact .inr (.inr ⟨c, a, b, by rw [numsOf_length] at h; omega⟩)
theorem spl_nums (p : ByteArray) : numsOf (strOfNums (splP (numsOf p))) = splP (numsOf p) ∧ numsOf (strOfNums (splN (numsOf p))) = splN (numsOf p) := by
  rcases spl_cases p with ⟨_, a, b, _⟩ | ⟨_, _, _, d, _⟩ | ⟨_, a, b, _⟩
  · rw [a, b, strOfNums_numsOf]; exact ⟨rfl, rfl⟩
  · exact ⟨numsOf_sub (s := p) fun z hz => by rw [d]; exact List.mem_append_left _ hz, numsOf_sub (s := p) fun z hz => by rw [d]; exact List.mem_append_right _ (List.mem_cons_of_mem _ hz)⟩
  · rw [a, b]; exact ⟨rfl, rfl⟩
theorem spl_join {p : ByteArray} (h : splB (numsOf p) = true) : strOfNums (joinZ (numsOf (strOfNums (splP (numsOf p)))) (numsOf (strOfNums (splN (numsOf p))))) = p := by
  rw [(spl_nums p).1, (spl_nums p).2]
  unfold joinZ
  rcases spl_cases p with ⟨_, a, b, _⟩ | ⟨_, a, _, d, _⟩ | ⟨a, _⟩
  · rw [if_pos a, b, strOfNums_numsOf]
  · rw [if_neg a, ← d, strOfNums_numsOf]
  · rw [h] at a; cases a
theorem str_emp {zs : List Int} : strOfNums zs = emp ↔ zs = [] := by
  constructor
  · intro h
    have := congrArg (fun s : ByteArray => s.data.toList.length) h
    simp only [strOfNums_data, List.length_map] at this
    exact List.eq_nil_of_length_eq_zero this
  · rintro rfl; rfl

/-! what Merge composes -/
/-- what strconv.ParseInt hands back -/
def pzI (v : ByteArray) : Int := match parseIntB 64 v.data.toList with
  | .ok n => n
  | .range => intSat 64 v.data.toList
  | _ => 0
def setR (e : Ent) (r : Rec) : Ent := if r.1 = kLink then { e with t := r.2 } else if r.1 = kPath then { e with p := r.2 } else if r.1 = kSize then { e with s := pzI r.2 } else e
def cmp0 (h : Hd) : Ent := ⟨kdZ h.T, strOfNums (joinZ (numsOf h.pf) (numsOf h.nm)), h.md, h.lk, h.sz⟩
def cmpE (h : Hd) (l : List Rec) : Ent := l.foldl setR (cmp0 h)
def mgOk (h : Hd) (l : List Rec) : Prop := ckE (cmpE h l) = 0 ∧ plH (cmpE h l) = h ∧ plL (cmpE h l) = l

theorem set_link (e : Ent) (v : ByteArray) : setR e (kLink, v) = { e with t := v } := by unfold setR; rw [if_pos rfl]
theorem set_path (e : Ent) (v : ByteArray) : setR e (kPath, v) = { e with p := v } := by unfold setR; rw [if_neg (show ¬ kPath = kLink by decide), if_pos rfl]
theorem set_size (e : Ent) (v : ByteArray) : setR e (kSize, v) = { e with s := pzI v } := by unfold setR; rw [if_neg (show ¬ kSize = kLink by decide), if_neg (show ¬ kSize = kPath by decide), if_pos rfl]

theorem decFrom_digs : ∀ (l : List UInt8) (acc : Nat), (∀ b ∈ l, 48 ≤ b.toNat ∧ b.toNat ≤ 57) → decFrom acc l = some ((l.map fun b => (b.toNat : Int)).foldl (fun n z => 10 * n + (z - 48).toNat) acc)
  | [], _, _ => rfl
  | b :: r, acc, h => by
    have hb := h b List.mem_cons_self
    unfold decFrom digitVal
    rw [if_pos hb]
    dsimp only
    rw [decFrom_digs r _ fun c hc => h c (List.mem_cons_of_mem _ hc), List.map_cons, List.foldl_cons]
    congr 2
    omega
/-- a numeral of a size, read by ParseInt -/
theorem pz_num {v : ByteArray} (h : decOk (numsOf v) = true) (hv : decV (numsOf v) ≤ 1099511627776) : pzI v = decV (numsOf v) := by
  have hl := dec_len13 h hv
  have hd := (decOk_iff _).1 h
  have hlen : v.data.toList.length ≤ 18 := by rw [show numsOf v = v.data.toList.map fun b => (b.toNat : Int) from rfl, List.length_map] at hl; omega
  have hg : ∀ b ∈ v.data.toList, 48 ≤ b.toNat ∧ b.toNat ≤ 57 := by
    intro b hb
    have := (List.all_eq_true.1 (by
      have h' := h
      unfold decOk at h'
      rw [Bool.and_eq_true, Bool.and_eq_true] at h'
      exact h'.1.2)) (b.toNat : Int) (List.mem_map.2 ⟨b, hb, rfl⟩)
    rw [digB_iff] at this
    omega
  have hne : v.data.toList ≠ [] := by
    intro e
    exact hd.1 (by unfold numsOf; rw [e]; rfl)
  have key : parseIntB 64 v.data.toList = .ok (decV (numsOf v) : Int) := by
    rw [parseIntB_64, atoiAll_short _ hlen]
    have e1 : decNat v.data.toList = some (decV (numsOf v)) := by
      unfold decNat
      rw [if_neg (by simpa using hne), decFrom_digs _ _ hg]
      rfl
    obtain ⟨b, r, hbr⟩ : ∃ b r, v.data.toList = b :: r := List.exists_cons_of_ne_nil hne
    have hb := hg b (by rw [hbr]; exact List.mem_cons_self)
    rw [hbr] at e1 ⊢
    unfold atoi
    dsimp only
    rw [if_neg (by simp; intro e; rw [e] at hb; exact absurd hb (by decide)), if_neg (by simp; intro e; rw [e] at hb; exact absurd hb (by decide)), e1]
    rfl
  unfold pzI
  rw [key]
theorem dec_bytes (n : Nat) : numsOf (strOfNums (decD n)) = decD n := numsOf_strOfNums fun z hz => by
  have := (List.all_eq_true.1 (decD_digs n)) z hz
  rw [digB_iff] at this
  omega
theorem pz_dec {n : Nat} (h : n ≤ 1099511627776) : pzI (strOfNums (decD n)) = n := by
  have e := pz_num (v := strOfNums (decD n)) (by rw [dec_bytes]; exact decD_ok n) (by rw [dec_bytes, decV_decD]; exact h)
  rw [e, dec_bytes, decV_decD]
end Go.Proofs.YtokjmehecfjhmaaDoor.Fit
/-
  Layer 10: plain mathematics: Merge inverts Plan; what a record more or less does; the reference's candidate. No memory.
-/
namespace Go.Proofs.YtokjmehecfjhmaaDoor.Fit
open Go.Lib Go.RowKit Pxr Pnm

theorem link_path : ¬ kLink = kPath := by decide
theorem link_size : ¬ kLink = kSize := by decide
theorem path_size : ¬ kPath = kSize := by decide

/-- Merge inverts Plan -/
theorem back {e : Ent} (h : Ok e) : cmpE (plH e) (plL e) = e := by
  obtain ⟨k, p, m, t, s⟩ := e
  have hk : kdZ (tyZ k) = k := kd_ty h.k0 h.k4
  obtain ⟨hs0, hs1, _⟩ := sz_cases h.sz
  dsimp only at hs0 hs1
  have hP : (if splB (numsOf p) = true then p else emp) = strOfNums (joinZ (numsOf (strOfNums (splP (numsOf p)))) (numsOf (strOfNums (splN (numsOf p))))) := by
    by_cases hb : splB (numsOf p) = true
    · rw [if_pos hb, spl_join hb]
    · rw [if_neg hb]
      rcases spl_cases p with ⟨a, _⟩ | ⟨a, _⟩ | ⟨_, a, b, _⟩
      · exact absurd a hb
      · exact absurd a hb
      · rw [a, b]; rfl
  unfold cmpE plL
  rw [List.foldl_append, List.foldl_append]
  have e0 : cmp0 (plH ⟨k, p, m, t, s⟩) = ⟨k, if splB (numsOf p) = true then p else emp, m, if t.size ≤ 100 then t else emp, if s ≤ 8589934591 then s else 0⟩ := by
    unfold cmp0 plH
    dsimp only
    rw [hk, hP]
  rw [e0]
  have e1 : List.foldl setR ⟨k, if splB (numsOf p) = true then p else emp, m, if t.size ≤ 100 then t else emp, if s ≤ 8589934591 then s else 0⟩ (plT ⟨k, p, m, t, s⟩) = ⟨k, if splB (numsOf p) = true then p else emp, m, t, if s ≤ 8589934591 then s else 0⟩ := by
    unfold plT
    dsimp only
    by_cases ht : t.size ≤ 100
    · rw [if_pos ht, if_pos ht]; rfl
    · rw [if_neg ht, if_neg ht, List.foldl_cons, set_link]; rfl
  rw [e1]
  have e2 : List.foldl setR ⟨k, if splB (numsOf p) = true then p else emp, m, t, if s ≤ 8589934591 then s else 0⟩ (plP ⟨k, p, m, t, s⟩) = ⟨k, p, m, t, if s ≤ 8589934591 then s else 0⟩ := by
    unfold plP
    dsimp only
    by_cases hb : splB (numsOf p) = true
    · rw [if_pos hb, if_pos hb]; rfl
    · rw [if_neg hb, if_neg hb, List.foldl_cons, set_path]; rfl
  rw [e2]
  unfold plS
  dsimp only
  by_cases hs : s ≤ 8589934591
  · rw [if_pos hs, if_pos hs]; rfl
  · rw [if_neg hs, if_neg hs, List.foldl_cons, set_size, pz_dec (by omega), List.foldl_nil]
    have : ((s.toNat : Nat) : Int) = s := by omega
    rw [this]
theorem mg_back {e : Ent} (h : Ok e) : mgOk (plH e) (plL e) := by
  unfold mgOk
  rw [back h]
  exact ⟨ck_ok.2 h, rfl, rfl⟩
theorem plan_inj {e f : Ent} (he : Ok e) (hf : Ok f) : (plH e = plH f ∧ plL e = plL f) ↔ e = f := by
  constructor
  · rintro ⟨h1, h2⟩
    rw [← back he, ← back hf, h1, h2]
  · rintro rfl; exact ⟨rfl, rfl⟩

/-! the records of a plan -/
theorem mem_pl {e : Ent} {r : Rec} (h : r ∈ plL e) : (r = (kLink, e.t) ∧ 100 < e.t.size) ∨ (r = (kPath, e.p) ∧ splB (numsOf e.p) = false) ∨ (r = (kSize, strOfNums (decD e.s.toNat)) ∧ 8589934591 < e.s) := by
  unfold plL plT plP plS at h
  rw [List.mem_append, List.mem_append] at h
  rcases h with h | h | h
  · split at h
    · cases h
    · rename_i hc; exact .inl ⟨List.mem_singleton.1 h, by omega⟩
  · split at h
    · cases h
    · rename_i hc; exact .inr (.inl ⟨List.mem_singleton.1 h, by simpa using hc⟩)
  · split at h
    · cases h
    · rename_i hc; exact .inr (.inr ⟨List.mem_singleton.1 h, by omega⟩)
theorem pl_len (e : Ent) : (plL e).length ≤ 3 := by
  unfold plL plT plP plS
  rw [List.length_append, List.length_append]
  split <;> split <;> split <;> simp only [List.length_nil, List.length_singleton] <;> omega
/-- each of them is valid -/
theorem pl_chk {e : Ent} (h : Ok e) : ∀ r ∈ plL e, chk r = 0 := by
  intro r hr
  rcases mem_pl hr with ⟨rfl, ht⟩ | ⟨rfl, _⟩ | ⟨rfl, hs⟩
  · unfold chk
    rw [if_pos (.inl rfl)]
    rcases (tg_cases h.tg).2.2 with e1 | e1
    · rw [e1] at ht; exact absurd ht (by decide)
    · exact e1
  · unfold chk
    rw [if_pos (.inr rfl)]
    obtain ⟨a, b⟩ := path_pos h.path
    unfold chkT
    dsimp only
    rw [if_neg (by omega), if_neg]
    rintro (e1 | e1)
    · exact a (emp_size.2 e1)
    · exact path_nozero (chE_zero.1 h.path).2 e1
  · unfold chk
    rw [if_neg (show ¬ (kSize = kLink ∨ kSize = kPath) by decide), if_pos rfl]
    obtain ⟨h0, h1, _⟩ := sz_cases h.sz
    unfold chkS
    dsimp only
    rw [dec_bytes, decD_ok, decV_decD, if_neg (by decide), if_neg (by omega)]
theorem pl_good {e : Ent} (h : Ok e) : fmE [] (plL e) = 0 := by
  have hc := pl_chk h
  have k1 : keyLe kPath kLink = false := by rw [keyLe_ix (.inr (.inl rfl)) (.inl rfl)]; decide
  have k2 : keyLe kSize kLink = false := by rw [keyLe_ix (.inr (.inr rfl)) (.inl rfl)]; decide
  have k3 : keyLe kSize kPath = false := by rw [keyLe_ix (.inr (.inr rfl)) (.inr (.inl rfl))]; decide
  revert hc
  unfold plL plT plP plS
  intro hc
  have one : ∀ (b : List Rec) (r : Rec) (rs : List Rec), chk r = 0 → prevLe b r.1 = false → fmE (b ++ [r]) rs = 0 → fmE b (r :: rs) = 0 := by
    intro b r rs h1 h2 h3
    rw [fmE_cons]
    unfold chkN
    rw [h1, h2, if_neg (by simp)]
    exact h3
  split at hc <;> rename_i c1 <;> split at hc <;> rename_i c2 <;> split at hc <;> rename_i c3 <;> simp only [c1, c2, c3, if_true, if_false, List.nil_append, List.append_nil, List.cons_append] at hc ⊢
  · rfl
  · exact one _ _ _ (hc _ (by simp)) rfl rfl
  · exact one _ _ _ (hc _ (by simp)) rfl rfl
  · exact one _ _ _ (hc _ (by simp)) rfl (one _ _ _ (hc _ (by simp)) k3 rfl)
  · exact one _ _ _ (hc _ (by simp)) rfl rfl
  · exact one _ _ _ (hc _ (by simp)) rfl (one _ _ _ (hc _ (by simp)) k2 rfl)
  · exact one _ _ _ (hc _ (by simp)) rfl (one _ _ _ (hc _ (by simp)) k1 rfl)
  · exact one _ _ _ (hc _ (by simp)) rfl (one _ _ _ (hc _ (by simp)) k1 (one _ _ _ (hc _ (by simp)) k3 rfl))

/-! FitIsMinimal -/
/-- keys of a plan: no two alike, ascending -/
theorem pl_sorted (e : Ent) : (plL e).Pairwise fun a b => kix a.1 < kix b.1 := by
  unfold plL plT plP plS
  split <;> split <;> split <;> simp [kix]
theorem set_keep (e : Ent) (r : Rec) : (r.1 ≠ kPath → (setR e r).p = e.p) ∧ (r.1 ≠ kLink → (setR e r).t = e.t) ∧ (r.1 ≠ kSize → (setR e r).s = e.s) ∧ (setR e r).k = e.k ∧ (setR e r).m = e.m := by
  unfold setR
  by_cases h1 : r.1 = kLink
  · rw [if_pos h1]; exact ⟨fun _ => rfl, fun h => absurd h1 h, fun _ => rfl, rfl, rfl⟩
  · rw [if_neg h1]
    by_cases h2 : r.1 = kPath
    · rw [if_pos h2]; exact ⟨fun h => absurd h2 h, fun _ => rfl, fun _ => rfl, rfl, rfl⟩
    · rw [if_neg h2]
      by_cases h3 : r.1 = kSize
      · rw [if_pos h3]; exact ⟨fun _ => rfl, fun _ => rfl, fun h => absurd h3 h, rfl, rfl⟩
      · rw [if_neg h3]; exact ⟨fun _ => rfl, fun _ => rfl, fun _ => rfl, rfl, rfl⟩
theorem fold_keep : ∀ (l : List Rec) (e : Ent), ((∀ r ∈ l, r.1 ≠ kPath) → (l.foldl setR e).p = e.p) ∧ ((∀ r ∈ l, r.1 ≠ kLink) → (l.foldl setR e).t = e.t) ∧ ((∀ r ∈ l, r.1 ≠ kSize) → (l.foldl setR e).s = e.s) ∧ (l.foldl setR e).k = e.k ∧ (l.foldl setR e).m = e.m
  | [], _ => ⟨fun _ => rfl, fun _ => rfl, fun _ => rfl, rfl, rfl⟩
  | r :: l, e => by
    obtain ⟨a, b, c, d, f⟩ := fold_keep l (setR e r)
    obtain ⟨a', b', c', d', f'⟩ := set_keep e r
    rw [List.foldl_cons]
    refine ⟨fun h => ?_, fun h => ?_, fun h => ?_, d.trans d', f.trans f'⟩
    · exact (a fun x hx => h x (List.mem_cons_of_mem _ hx)).trans (a' (h r List.mem_cons_self))
    · exact (b fun x hx => h x (List.mem_cons_of_mem _ hx)).trans (b' (h r List.mem_cons_self))
    · exact (c fun x hx => h x (List.mem_cons_of_mem _ hx)).trans (c' (h r List.mem_cons_self))
/-- a record less -/
theorem less_one {e : Ent} (h : Ok e) {i : Nat} {r : Rec} (hr : (plL e)[i]? = some r) (hm : mgOk (plH e) ((plL e).take i ++ (plL e).drop (i + 1))) : r.1 = kSize ∧ (cmpE (plH e) ((plL e).take i ++ (plL e).drop (i + 1))).s = 0 := by
  obtain ⟨hi, hg⟩ := List.getElem?_eq_some_iff.1 hr
  have hmem : r ∈ plL e := by rw [← hg]; exact List.getElem_mem hi
  have hsplit : plL e = (plL e).take i ++ r :: (plL e).drop (i + 1) := by rw [← hg, ← List.drop_eq_getElem_cons hi, List.take_append_drop]
  have hne : ∀ x ∈ (plL e).take i ++ (plL e).drop (i + 1), x.1 ≠ r.1 := by
    have hp := pl_sorted e
    rw [hsplit, List.pairwise_append] at hp
    obtain ⟨_, p2, p3⟩ := hp
    intro x hx e1
    rw [List.mem_append] at hx
    rcases hx with hx | hx
    · have := p3 x hx r List.mem_cons_self; rw [e1] at this; omega
    · have := (List.pairwise_cons.1 p2).1 x hx; rw [e1] at this; omega
  generalize (plL e).take i ++ (plL e).drop (i + 1) = l at hm hne
  obtain ⟨hk, _, _⟩ := hm
  have hO := ck_ok.1 hk
  obtain ⟨fp, ft, fs, fk, _⟩ := fold_keep l (cmp0 (plH e))
  rcases mem_pl hmem with ⟨rfl, ht⟩ | ⟨rfl, hb⟩ | ⟨rfl, hs⟩
  · exfalso
    have e1 : (cmpE (plH e) l).t = emp := by
      rw [show cmpE (plH e) l = l.foldl setR (cmp0 (plH e)) from rfl, ft hne]
      show (if e.t.size ≤ 100 then e.t else emp) = emp
      rw [if_neg (by omega)]
    have e2 : (cmpE (plH e) l).k = e.k := by
      rw [show cmpE (plH e) l = l.foldl setR (cmp0 (plH e)) from rfl, fk]
      exact kd_ty h.k0 h.k4
    rcases (tg_cases h.tg).2.1 with ⟨_, _, e3⟩ | ⟨e3, _⟩
    · rw [e3] at ht; exact absurd ht (by decide)
    · rcases (tg_cases hO.tg).2.1 with ⟨e4, e5, _⟩ | ⟨_, e4⟩
      · rw [e2] at e4 e5; omega
      · exact e4 e1
  · exfalso
    have e1 : (cmpE (plH e) l).p = emp := by
      rw [show cmpE (plH e) l = l.foldl setR (cmp0 (plH e)) from rfl, fp hne]
      show strOfNums (joinZ (numsOf (strOfNums (splP (numsOf e.p)))) (numsOf (strOfNums (splN (numsOf e.p))))) = emp
      rcases spl_cases e.p with ⟨a, _⟩ | ⟨a, _⟩ | ⟨_, a, b, _⟩
      · rw [hb] at a; cases a
      · rw [hb] at a; cases a
      · rw [a, b]; rfl
    exact (path_pos hO.path).1 e1
  · refine ⟨rfl, ?_⟩
    rw [show cmpE (plH e) l = l.foldl setR (cmp0 (plH e)) from rfl, fs hne]
    show (if e.s ≤ 8589934591 then e.s else 0) = 0
    rw [if_neg (by omega)]
/-- when there is no record at all -/
theorem no_recs {e : Ent} : plL e = [] ↔ splB (numsOf e.p) = true ∧ e.t.size ≤ 100 ∧ e.s ≤ 8589934591 := by
  unfold plL plT plP plS
  constructor
  · intro h
    split at h <;> rename_i c1 <;> split at h <;> rename_i c2 <;> split at h <;> rename_i c3 <;> first | exact ⟨c2, c1, c3⟩ | cases h
  · rintro ⟨a, b, c⟩
    rw [if_pos a, if_pos b, if_pos c]; rfl
theorem fits_iff (p : ByteArray) : splB (numsOf p) = true ↔ p.size ≤ 100 ∨ strOfNums (splP (numsOf p)) ≠ emp := by
  rcases spl_cases p with ⟨a, b, _, d⟩ | ⟨a, b, _, _, _, _, d⟩ | ⟨a, b, _, d⟩
  · exact ⟨fun _ => .inl d, fun _ => a⟩
  · exact ⟨fun _ => .inr fun e => b (str_emp.1 e), fun _ => a⟩
  · rw [a, b]
    constructor
    · intro h; cases h
    · rintro (h | h)
      · omega
      · exact absurd rfl h
/-- a record more -/
theorem more_one {e : Ent} (h : Ok e) {x : Rec} (hm : mgOk (plH e) (plL e ++ [x])) : x.1 = kSize ∧ 8589934591 < (cmpE (plH e) (plL e ++ [x])).s := by
  generalize hf : cmpE (plH e) (plL e ++ [x]) = f at *
  obtain ⟨hk, hh, hl⟩ := hm
  rw [hf] at hk hh hl
  have hO := ck_ok.1 hk
  have hmem : x ∈ plL f := by rw [hl]; exact List.mem_append_right _ List.mem_cons_self
  have hlast : ∀ r ∈ plL e, kix r.1 < kix x.1 := by
    have hp := pl_sorted f
    rw [hl, List.pairwise_append] at hp
    exact fun r hr => hp.2.2 r hr x List.mem_cons_self
  have hkk : f.k = e.k := by
    have := congrArg Hd.T hh
    have e1 : tyZ f.k = tyZ e.k := this
    rw [← kd_ty hO.k0 hO.k4, ← kd_ty h.k0 h.k4, e1]
  rcases mem_pl hmem with ⟨rfl, ht⟩ | ⟨rfl, hb⟩ | ⟨rfl, hs⟩
  · exfalso
    have e0 : (if f.t.size ≤ 100 then f.t else emp) = (if e.t.size ≤ 100 then e.t else emp) := congrArg Hd.lk hh
    rw [if_neg (by omega)] at e0
    have hnt : e.t.size ≤ 100 := by
      apply Decidable.byContradiction
      intro hc
      have := hlast (kLink, e.t) (by unfold plL plT; rw [if_neg hc]; simp)
      simp at this
    rw [if_pos hnt] at e0
    rcases (tg_cases hO.tg).2.1 with ⟨_, _, e3⟩ | ⟨e3, _⟩
    · rw [e3] at ht; exact absurd ht (by decide)
    · rcases (tg_cases h.tg).2.1 with ⟨e4, e5, _⟩ | ⟨_, e4⟩
      · rw [hkk] at e3; omega
      · exact e4 e0.symm
  · exfalso
    have e0 : strOfNums (splN (numsOf f.p)) = strOfNums (splN (numsOf e.p)) := congrArg Hd.nm hh
    have e1 : splN (numsOf f.p) = [] := by
      rcases spl_cases f.p with ⟨a, _⟩ | ⟨a, _⟩ | ⟨_, _, b, _⟩
      · rw [hb] at a; cases a
      · rw [hb] at a; cases a
      · exact b
    rw [e1] at e0
    have e2 : splN (numsOf e.p) = [] := str_emp.1 e0.symm
    rcases spl_cases e.p with ⟨_, _, b, _⟩ | ⟨_, _, b, _⟩ | ⟨b, _⟩
    · rw [b] at e2
      exact (path_pos h.path).1 (emp_size.2 (by rw [← numsOf_length, e2]; rfl))
    · exact b e2
    · have := hlast (kPath, e.p) (by unfold plL plP; rw [b]; simp)
      simp at this
  · exact ⟨rfl, hs⟩

/-! the reference's candidate -/
def numOk (v : ByteArray) : Prop := decOk (numsOf v) = true ∧ decV (numsOf v) ≤ 1099511627776
instance (v : ByteArray) : Decidable (numOk v) := by unfold numOk; infer_instance
/-- the records whose numbers the reference reads -/
def allNum (l : List Rec) : Prop := ∀ r ∈ l, r.1 = kSize → numOk r.2
instance (l : List Rec) : Decidable (allNum l) := by unfold allNum; infer_instance
/-- one step of the reference -/
def setN (e : Ent) (r : Rec) : Ent := if r.1 = kLink then { e with t := r.2 } else if r.1 = kPath then { e with p := r.2 } else if r.1 = kSize then { e with s := (decV (numsOf r.2) : Int) } else e
theorem setN_eq {e : Ent} {r : Rec} (h : r.1 = kSize → numOk r.2) : setN e r = setR e r := by
  unfold setN setR
  by_cases h1 : r.1 = kLink
  · rw [if_pos h1, if_pos h1]
  · rw [if_neg h1, if_neg h1]
    by_cases h2 : r.1 = kPath
    · rw [if_pos h2, if_pos h2]
    · rw [if_neg h2, if_neg h2]
      by_cases h3 : r.1 = kSize
      · rw [if_pos h3, if_pos h3, pz_num (h h3).1 (h h3).2]
      · rw [if_neg h3, if_neg h3]
theorem fold_num : ∀ {l : List Rec} (e : Ent), allNum l → l.foldl setN e = l.foldl setR e
  | [], _, _ => rfl
  | r :: l, e, h => by
    rw [List.foldl_cons, List.foldl_cons, setN_eq (h r List.mem_cons_self)]
    exact fold_num _ fun x hx => h x (List.mem_cons_of_mem _ hx)
theorem mg_num {h : Hd} {l : List Rec} (hm : mgOk h l) : allNum l := by
  obtain ⟨hk, _, hl⟩ := hm
  generalize cmpE h l = f at *
  have hO := ck_ok.1 hk
  obtain ⟨h0, h1, _⟩ := sz_cases hO.sz
  intro r hr e
  rw [← hl] at hr
  rcases mem_pl hr with ⟨rfl, _⟩ | ⟨rfl, _⟩ | ⟨rfl, hs⟩
  · exact absurd e link_size
  · exact absurd e path_size
  · exact ⟨by rw [dec_bytes]; exact decD_ok _, by rw [dec_bytes, decV_decD]; omega⟩
end Go.Proofs.YtokjmehecfjhmaaDoor.Fit
/-
  Layer 10: the package-level variables that the calls read: besides those of layer 9 the header types, and the two errors of strconv.
-/
namespace Go.Proofs.YtokjmehecfjhmaaDoor.Fit
open Go.RowKit Pxr

/-- what Check and Plan read -/
structure FVars (w : World) : Prop where
  v : Vars w
  tys : Lib.TabIs Tryd.prog w "paxtar/fit.types" .u8 [53, 48, 50, 49]
/-- what Merge reads -/
structure MVars (w : World) : Prop where
  f : FVars w
  syn : ∃ tp p, w.var? Tryd.prog "strconv.ErrSyntax" = some #[.iface tp p]
  rng : ∃ tp p, w.var? Tryd.prog "strconv.ErrRange" = some #[.iface tp p]

theorem var_below {w w' : World} {B g : Nat} {n : String} {cs : Array Value} (hg : Tryd.prog.globalNamed n = some g) (h : w.var? Tryd.prog n = some cs) (hb : Below B w w') (hB : w.heap.size ≤ B) : w'.var? Tryd.prog n = some cs := by
  unfold World.var? at h ⊢
  rw [hg] at h ⊢
  have hl : g < w.heap.size := by
    rcases Nat.lt_or_ge g w.heap.size with h' | h'
    · exact h'
    · simp [Array.getElem?_eq_none h'] at h
  rw [← h]
  simp only [Option.bind_some]
  rw [hb.block g (by omega)]
theorem gTys : Tryd.prog.globalNamed "paxtar/fit.types" = some 0 := by kernel_rfl
theorem gSyn : Tryd.prog.globalNamed "strconv.ErrSyntax" = some 6 := by kernel_rfl
theorem gRng : Tryd.prog.globalNamed "strconv.ErrRange" = some 7 := by kernel_rfl
theorem FVars.below {w w' : World} {B : Nat} (h : FVars w) (hb : Below B w w') (hB : w.heap.size ≤ B) : FVars w' :=
  ⟨h.v.below hb hB, var_below gTys h.tys hb hB⟩
theorem FVars.go {w w' : World} (h : FVars w) (hb : Below w.heap.size w w') : FVars w' := h.below hb (Nat.le_refl _)
theorem MVars.below {w w' : World} {B : Nat} (h : MVars w) (hb : Below B w w') (hB : w.heap.size ≤ B) : MVars w' := by
  obtain ⟨f, ⟨a, b, c⟩, ⟨d, e, g⟩⟩ := h
  exact ⟨f.below hb hB, ⟨a, b, var_below gSyn c hb hB⟩, ⟨d, e, var_below gRng g hb hB⟩⟩
theorem MVars.go {w w' : World} (h : MVars w) (hb : Below w.heap.size w w') : MVars w' := h.below hb (Nat.le_refl _)
theorem FVars.ty {w : World} (h : FVars w) {k : Int} (h0 : 0 ≤ k) (h4 : k < 4) : w.cell? ⟨0, k.toNat, none⟩ = some (.int .u8 (tyZ k)) := by
  have hc := h.tys.cell gTys
  rcases (show k = 0 ∨ k = 1 ∨ k = 2 ∨ k = 3 by omega) with rfl | rfl | rfl | rfl
  · exact hc 0 (by decide)
  · exact hc 1 (by decide)
  · exact hc 2 (by decide)
  · exact hc 3 (by decide)

/-! from what a row lists -/
theorem keys_of_head {W : World} {rest : List (String × DataW Unit)} (h2 : laidMet Tryd.prog (("paxtar/paxrec.keys", Rows.laid_paxtar_paxrec_keys) :: rest) W) :
    W.cell? ⟨2, 0, none⟩ = some (.string kLink) ∧ W.cell? ⟨2, 1, none⟩ = some (.string kPath) ∧ W.cell? ⟨2, 2, none⟩ = some (.string kSize) := by
  obtain ⟨ps, ⟨g', t', cs, fuel, p, q, hg', ht', hvar, hd, _, _⟩, _⟩ := h2
  obtain rfl := Option.some.inj ((by kernel_rfl : Tryd.prog.globalNamed "paxtar/paxrec.keys" = some 2).symm.trans hg')
  obtain rfl := Option.some.inj ((by kernel_rfl : (Tryd.prog.globals[2]?).map (·.type) = some 105).symm.trans ht')
  have hcs := cells_of_strs (zs := [[108, 105, 110, 107, 112, 97, 116, 104], [112, 97, 116, 104], [115, 105, 122, 101]]) Tryd.underlying105 Tryd.underlying9 (by kernel_rfl) (by kernel_rfl) hd
  have hcells := fun i => World.var?_cell (by kernel_rfl : Tryd.prog.globalNamed "paxtar/paxrec.keys" = some 2) hvar i
  have hc : ∀ i, cs[i]? = cs.toList[i]? := fun i => Array.getElem?_toList.symm
  refine ⟨?_, ?_, ?_⟩
  · rw [hcells, hc, hcs]; rfl
  · rw [hcells, hc, hcs]; rfl
  · rw [hcells, hc, hcs]; rfl
theorem tab_of_head {W : World} {rest : List (String × DataW Unit)} (h : laidMet Tryd.prog (("internal/strconv.uint64pow10", Rows.laid_internal_strconv_uint64pow10) :: rest) W) : Lib.TabIs Tryd.prog W "internal/strconv.uint64pow10" .u64 Lib.pow10Tab := by
  have e : (Rows.laid_internal_strconv_uint64pow10 : DataW Unit) = Lib.tabData .u64 Lib.pow10Tab := by kernel_rfl
  rw [e] at h
  exact Lib.tabIs_of_head (P := Tryd.prog) (by kernel_rfl : Tryd.prog.globalNamed "internal/strconv.uint64pow10" = some 1) (by kernel_rfl : (Tryd.prog.globals[1]?).map (·.type) = some 99) Tryd.underlying99 Tryd.underlying87 (by kernel_rfl) (by kernel_rfl) h
theorem tys_of_head {W : World} {rest : List (String × DataW Unit)} (h : laidMet Tryd.prog (("paxtar/fit.types", Rows.laid_paxtar_fit_types) :: rest) W) : Lib.TabIs Tryd.prog W "paxtar/fit.types" .u8 [53, 48, 50, 49] := by
  have e : (Rows.laid_paxtar_fit_types : DataW Unit) = Lib.tabData .u8 [53, 48, 50, 49] := by kernel_rfl
  rw [e] at h
  exact Lib.tabIs_of_head (P := Tryd.prog) gTys (by kernel_rfl : (Tryd.prog.globals[0]?).map (·.type) = some 59) Tryd.underlying59 Tryd.underlying5 (by kernel_rfl) (by kernel_rfl) h
/-- the shorter list -/
theorem fvars_of {W : World} {a b : String × DataW Unit} (h : laidMetH Tryd.prog [a, b, ("internal/strconv.uint64pow10", Rows.laid_internal_strconv_uint64pow10), ("paxtar/paxrec.keys", Rows.laid_paxtar_paxrec_keys), ("paxtar/fit.types", Rows.laid_paxtar_fit_types)] W)
    (hp : ([a, b, ("internal/strconv.uint64pow10", Rows.laid_internal_strconv_uint64pow10), ("paxtar/paxrec.keys", Rows.laid_paxtar_paxrec_keys), ("paxtar/fit.types", Rows.laid_paxtar_fit_types)].all fun x => x.2.handleName?.isNone) = true) : FVars W := by
  rw [MakeChecks.laidMetH_plain _ _ _ hp] at h
  have h1 := h.tail.tail
  obtain ⟨k0, k1, k2⟩ := keys_of_head h1.tail
  exact ⟨⟨tab_of_head h1, k0, k1, k2⟩, tys_of_head h1.tail.tail⟩
theorem star : "*" ++ "errors.errorString" = "*errors.errorString" := by decide
theorem rowE (u : TypeId) (h : Tryd.prog.typeName? 3 u = some "*errors.errorString") : u = 124 :=
  typeName_ptr_named (nm := "errors.errorString") (by rw [star]; kernel_rfl) (by kernel_rfl) (by decide) u (by rw [star]; exact h)
/-- the longer list -/
theorem mvars_of {W : World} {a b : String × DataW Unit} (h : laidMetH Tryd.prog [a, b, ("internal/strconv.uint64pow10", Rows.laid_internal_strconv_uint64pow10), ("strconv.ErrRange", Rows.laid_strconv_ErrRange), ("strconv.ErrSyntax", Rows.laid_strconv_ErrSyntax), ("paxtar/paxrec.keys", Rows.laid_paxtar_paxrec_keys), ("paxtar/fit.types", Rows.laid_paxtar_fit_types)] W)
    (hp : ([a, b, ("internal/strconv.uint64pow10", Rows.laid_internal_strconv_uint64pow10), ("strconv.ErrRange", Rows.laid_strconv_ErrRange), ("strconv.ErrSyntax", Rows.laid_strconv_ErrSyntax), ("paxtar/paxrec.keys", Rows.laid_paxtar_paxrec_keys), ("paxtar/fit.types", Rows.laid_paxtar_fit_types)].all fun x => x.2.handleName?.isNone) = true) : MVars W := by
  rw [MakeChecks.laidMetH_plain _ _ _ hp] at h
  have h1 := h.tail.tail
  have h2 := h1.tail
  have h3 := h2.tail
  have h4 := h3.tail
  obtain ⟨k0, k1, k2⟩ := keys_of_head h4
  obtain ⟨a0, s0, hr, -, -, -⟩ := laid_sentinel h2 gRng (by kernel_rfl : (Tryd.prog.globals[7]?).map (·.type) = some 94) Tryd.underlying94 rowE Tryd.underlying124 Tryd.underlying126 rfl rfl Tryd.underlying9 (by kernel_rfl) (by kernel_rfl)
  obtain ⟨a1, s1, hs, -, -, -⟩ := laid_sentinel h3 gSyn (by kernel_rfl : (Tryd.prog.globals[6]?).map (·.type) = some 94) Tryd.underlying94 rowE Tryd.underlying124 Tryd.underlying126 rfl rfl Tryd.underlying9 (by kernel_rfl) (by kernel_rfl)
  exact ⟨⟨⟨tab_of_head h1, k0, k1, k2⟩, tys_of_head h4.tail⟩, ⟨_, _, hs⟩, ⟨_, _, hr⟩⟩
end Go.Proofs.YtokjmehecfjhmaaDoor.Fit
/-
  A store into one field of a struct's variable. Nothing of the program.
-/
namespace Go.Proofs.YtokjmehecfjhmaaDoor
open Go.RowKit

/-- block g alone has turned -/
structure TurnB (w w' : World) (g : Nat) : Prop where
  below : ∀ {B : Nat}, B ≤ g → Below B w w'
  other : ∀ {k : Nat}, k ≠ g → w'.heap[k]? = w.heap[k]?
  size : w'.heap.size = w.heap.size
theorem ObjAt.turnB {w w' : World} {g k : Nat} {T : TypeId} {vs : List Value} (h : ObjAt w k T vs) (t : TurnB w w' g) (hk : k ≠ g) : ObjAt w' k T vs := (t.other hk).trans h
theorem own_turnB {w w' : World} {base n size g : Nat} {e : TypeId} {v : Value} {xs : List Value} (h : w.ownsRow base e size v n xs) (t : TurnB w w' g) (hb : g < base) : w'.ownsRow base e size v n xs := by
  obtain ⟨h1, h2⟩ := h
  refine ⟨h1, ?_⟩
  rcases h2 with h2 | ⟨g', cap', cur, hv, hb', hh, r⟩
  · exact Or.inl h2
  · exact Or.inr ⟨g', cap', cur, hv, hb', by rw [t.other (by omega)]; exact hh, r⟩
section
variable {P : Program} {w : World} {ops : Array Oper} {rest : List Oper} {o : Oper} {a : Act} {Q : Exit → Act → World → Prop}
theorem wpList_store_cell (hgd : o.guard = none) (T : TypeId) (x y : Operand) (ho : o.op = .store T x y) (g i : Nat) (hx : a.eval x = .pointer (some ⟨g, i, none⟩))
    (v : Value) (hy : a.eval y = v) (h1 : v.oneCell' = true) (hs : (P.info? T).map (·.size) = some 1) (T' : TypeId) (vs : List Value) (hg : ObjAt w g T' vs) (hi : i < vs.length)
    (K : ∀ w', ObjAt w' g T' (vs.set i v) → TurnB w w' g → wpList P ops Q rest (a.put o.dst undef) w') : wpList P ops Q (o :: rest) a w := by
  refine wpList_plain hgd fun K' hK => ?_
  have hc : w.cell? ⟨g, i, none⟩ = some vs[i] := hg.get i (List.getElem?_eq_getElem hi)
  have hf := hg.frozen i
  have hv : v.cells = #[v] := by cases v <;> first | rfl | (simp [Value.oneCell'] at h1)
  cases hq : P.info? T with
  | none => simp [hq] at hs
  | some j =>
    have hj : j.size = 1 := by simpa [hq] using hs
    have ha : (⟨g, i, none⟩ : Addr).add 0 = ⟨g, i, none⟩ := add_plain' g i 0
    have hrun : (storeVar T ⟨g, i, none⟩ v).run P w = .ok () (w.setCell ⟨g, i, none⟩ v) := by
      simp [storeVar, sizeOf, typeInfo, hq, hj, hv, storeCells, run_store P w _ v _ h1, ha, hc, hf]
    unfold Oper.wp execOp
    simp only [ho, hx, hy, Instr.storeAt, Instr.sureAddr, Sem.run_bind, Sem.run_pure, Result.andThen_ok, hrun]
    exact hK _ _ (K _ (hg.set i v) ⟨fun hB => (Below.refl _ _).setCell hB v, fun hk => Below.heap_setCell _ _ _ _ hk, by simp [World.setCell]⟩)
end
end Go.Proofs.YtokjmehecfjhmaaDoor
/-
  Layer 10: what Plan and Merge hand back, as values.
-/
namespace Go.Proofs.YtokjmehecfjhmaaDoor.Fit
open Go.RowKit Pxr Pnm

/-- an entry as a value -/
abbrev enV (k : Int) (p : ByteArray) (m : Int) (t : ByteArray) (s : Int) : List Value := [.int .i64 k, .string p, .int .i64 m, .string t, .int .i64 s]
theorem enT : ObjT Tryd.prog 23 5 := ⟨⟨_, Tryd.underlying23⟩, by kernel_rfl⟩
theorem hdTp : ObjT Tryd.prog 27 6 := ⟨⟨_, Tryd.underlying27⟩, by kernel_rfl⟩
theorem hdTr : ObjT Tryd.prog 32 6 := ⟨⟨_, Tryd.underlying32⟩, by kernel_rfl⟩
theorem hd_one (T : Int) (a b c : ByteArray) (m z : Int) : ∀ v ∈ Ust.hdV T a b c m z, v.oneCell' = true := by simp [Value.oneCell']
theorem en_one (k : Int) (p : ByteArray) (m : Int) (t : ByteArray) (s : Int) : ∀ v ∈ enV k p m t s, v.oneCell' = true := by simp [Value.oneCell']
theorem zHp : (Tryd.prog.info? 27).map (·.zero) = some (some (.agg (Ust.hd0).toArray)) := by kernel_rfl
theorem zHr : (Tryd.prog.info? 32).map (·.zero) = some (some (.agg (Ust.hd0).toArray)) := by kernel_rfl
theorem zEn : (Tryd.prog.info? 23).map (·.zero) = some (some (.agg (enV 0 emp 0 emp 0).toArray)) := by kernel_rfl
theorem sStr : (Tryd.prog.info? 9).map (·.size) = some 1 := by kernel_rfl
theorem sI64 : (Tryd.prog.info? 2).map (·.size) = some 1 := by kernel_rfl
theorem sInt : (Tryd.prog.info? 3).map (·.size) = some 1 := by kernel_rfl

/-- a header, records and an error -/
def RetPl (T : Int) (nm pf lk : ByteArray) (md sz : Int) (L : List Rec) (E : Int) (w : World) (e : Ending) (w' : World) : Prop :=
  ∃ b n c, e = .returned (.tuple #[.agg (Ust.hdV T nm pf lk md sz).toArray, .slice b n c, .int .i64 E]) ∧ L.length = n ∧ n ≤ c ∧ c ≤ maxLen ∧ RecsIn w' b L ∧ Below w.heap.size w w'
theorem RetPl.nil {T : Int} {nm pf lk : ByteArray} {md sz : Int} {E : Int} {w w' : World} (h : Below w.heap.size w w') : RetPl T nm pf lk md sz [] E w (.returned (.tuple #[.agg (Ust.hdV T nm pf lk md sz).toArray, .slice none 0 0, .int .i64 E])) w' :=
  ⟨none, 0, 0, rfl, rfl, Nat.le_refl _, Nat.zero_le _, .inl rfl, h⟩
theorem RetPl.own {T : Int} {nm pf lk : ByteArray} {md sz : Int} {E : Int} {L : List Rec} {w w' : World} {base n : Nat} {e : TypeId} {v : Value} (h : w'.ownsRow base e 2 v n (recCells L)) (hb : Below w.heap.size w w') :
    RetPl T nm pf lk md sz L E w (.returned (.tuple #[.agg (Ust.hdV T nm pf lk md sz).toArray, v, .int .i64 E])) w' := by
  obtain ⟨a, c, rfl, hn, hc, hm, hR, _⟩ := RecsIn.of_own h
  exact ⟨a, n, c, rfl, hn.symm, hc, hm, hR, hb⟩
/-- the results are a struct's variable and two slots -/
theorem results_obj_two {P : Program} {w : World} {fn : Func} {p q r : Tmp} {T : TypeId} {n : Nat} (h : fn.results = #[.cell p T, .tmp q, .tmp r]) (hT : ObjT P T n) (tmps : Array Value) (g : Nat) (hp : tmps.getD p undef = .pointer (some ⟨g, 0, none⟩))
    (T' : TypeId) (vs : List Value) (hg : ObjAt w g T' vs) (hl : vs.length = n) : (results fn tmps).run P w = .ok (.tuple #[.agg vs.toArray, tmps.getD q undef, tmps.getD r undef]) w := by
  have hp' : tmps[p]?.getD undef = .pointer (some ⟨g, 0, none⟩) := by simpa using hp
  simp [results, h, hp', asAddr, run_load_obj hT g T' vs hg hl]
end Go.Proofs.YtokjmehecfjhmaaDoor.Fit
/-
  Literals of four bytes; own rows beside a struct that is stored whole. Nothing of the program.
-/
namespace Go.Proofs.YtokjmehecfjhmaaDoor.Fit
open Go.RowKit Pxr Pnm

theorem own_turned2 {w w' : World} {base n size g : Nat} {e : TypeId} {v : Value} {xs : List Value} (h : w.ownsRow base e size v n xs) (t : Turned w w' g) (hb : g < base) : w'.ownsRow base e size v n xs := by
  obtain ⟨h1, h2⟩ := h
  refine ⟨h1, ?_⟩
  rcases h2 with h2 | ⟨g', cap', cur, hv, hb', hh, r⟩
  · exact Or.inl h2
  · exact Or.inr ⟨g', cap', cur, hv, hb', by rw [t.other (by omega)]; exact hh, r⟩
theorem u8J : (Tryd.prog.info? 5).map (fun i => (i.zero, i.size)) = some (some (.int .u8 0), 1) := by kernel_rfl
abbrev u4 (a b c d : Int) : List Value := [.int .u8 a, .int .u8 b, .int .u8 c, .int .u8 d]
theorem tys_at {k : Int} (k0 : 0 ≤ k) (k4 : k < 4) : (u4 53 48 50 49)[k.toNat]? = some (.int .u8 (tyZ k)) := by
  rcases (show k = 0 ∨ k = 1 ∨ k = 2 ∨ k = 3 by omega) with rfl | rfl | rfl | rfl <;> rfl
section
variable {P : Program} {w : World} {ops : Array Oper} {rest : List Oper} {o : Oper} {a : Act} {Q : Exit → Act → World → Prop}
theorem run_lit_u8_4 (t e : TypeId) (ht : P.underlying t = some (.slice e)) (hI : (P.info? e).map (fun i => (i.zero, i.size)) = some (some (.int .u8 0), 1)) (x y z u : Int) :
    (Instr.buildSlice t 4 #[(0, .int .u8 x), (1, .int .u8 y), (2, .int .u8 z), (3, .int .u8 u)]).run P w = .ok (.slice (some ⟨w.heap.size, 0, none⟩) 4 4) (w.alloc (.cells (u4 x y z u).toArray e)) := by
  cases hq : P.info? e with
  | none => simp [hq] at hI
  | some i =>
    simp [hq] at hI
    simp [Instr.buildSlice, run_underlying ht, sizeOf, typeInfo, zeroValue, hq, hI.1, hI.2, Instr.fill, newRow, Value.cells]
    rw [show Array.range 4 = #[0, 1, 2, 3] by decide]; simp
theorem step_lit_u8_4 {K : Act → World → Prop} {E : Prop} (hgd : o.guard = none) (t e : TypeId) (x0 x1 x2 x3 : Operand) (ho : o.op = .buildSlice t 4 #[(0, x0), (1, x1), (2, x2), (3, x3)]) (ht : P.underlying t = some (.slice e)) (hI : (P.info? e).map (fun i => (i.zero, i.size)) = some (some (.int .u8 0), 1))
    (x y z u : Int) (h0 : a.eval x0 = .int .u8 x) (h1 : a.eval x1 = .int .u8 y) (h2 : a.eval x2 = .int .u8 z) (h3 : a.eval x3 = .int .u8 u)
    (k : ∀ w', ObjAt w' w.heap.size e (u4 x y z u) → Below w.heap.size w w' → K (a.put o.dst (.slice (some ⟨w.heap.size, 0, none⟩) 4 4)) w') :
    if Region.wanted o (yielded ops a.tmps) = true then Oper.wp P o a w K Q else E := by
  have hw : Region.wanted o (yielded ops a.tmps) = true := by simp [Region.wanted, hgd]
  rw [if_pos hw]
  have hrun := run_lit_u8_4 (P := P) (w := w) t e ht hI x y z u
  unfold Oper.wp
  simp [execOp, ho, h0, h1, h2, h3, hrun, Result.andThen]
  exact k _ (heap_alloc_new w _) ((Below.refl _ _).alloc (Nat.le_refl _) _)
theorem wpList_lit_u8_4 (hgd : o.guard = none) (t e : TypeId) (x0 x1 x2 x3 : Operand) (ho : o.op = .buildSlice t 4 #[(0, x0), (1, x1), (2, x2), (3, x3)]) (ht : P.underlying t = some (.slice e)) (hI : (P.info? e).map (fun i => (i.zero, i.size)) = some (some (.int .u8 0), 1))
    (x y z u : Int) (h0 : a.eval x0 = .int .u8 x) (h1 : a.eval x1 = .int .u8 y) (h2 : a.eval x2 = .int .u8 z) (h3 : a.eval x3 = .int .u8 u)
    (K : ∀ w', ObjAt w' w.heap.size e (u4 x y z u) → Below w.heap.size w w' → wpList P ops Q rest (a.put o.dst (.slice (some ⟨w.heap.size, 0, none⟩) 4 4)) w') : wpList P ops Q (o :: rest) a w := by
  refine wpList_plain hgd fun K' hK => ?_
  have hrun := run_lit_u8_4 (P := P) (w := w) t e ht hI x y z u
  unfold Oper.wp
  simp [execOp, ho, h0, h1, h2, h3, hrun, Result.andThen]
  exact hK _ _ (K _ (heap_alloc_new w _) ((Below.refl _ _).alloc (Nat.le_refl _) _))
end
end Go.Proofs.YtokjmehecfjhmaaDoor.Fit
