/-
  Push and Pop of the heap's slice type as container/heap's contract; container/heap's Push, Pop, Init over the heap's object. (Scratch: names of types as in our own copy.)
-/
import Derived.Test.YtjokgiheabmolaaHepPush
namespace Go.Proofs.Ytjokgiheabmolaa.Hep
open Go.RowKit

theorem mthp_ho (w0 : World) (S0 : Nat → Prop) (gg : Nat) : MthP 45 (.pointer (some ⟨gg, 0, none⟩)) 46 45 (fun w l => HS w0 S0 gg w l ∧ l.length ≤ 8796093022208) where
  push := fun w l s h hb hs => ⟨_, run_method_ptr (by kernel_rfl) Try.underlying45, (mpush_any h.1.1 rfl hb).mono fun e w' q => ⟨q.1, ⟨q.2, fun y hy => by
    rcases List.mem_append.mp hy with hy | hy
    · exact h.1.2 y hy
    · rw [List.mem_singleton.mp hy]; exact hs⟩, by rw [List.length_append]; exact hb⟩⟩
  pop := fun w l n h hn => ⟨_, run_method_ptr (by kernel_rfl) Try.underlying45, (mpop_any h.1 hn (by have := h.2; omega)).mono fun e w' q => ⟨q.1, q.2, by rw [List.length_take]; have := h.2; omega⟩⟩
  ep := enters (by kernel_rfl)
  eq := enters (by kernel_rfl)
theorem Mth.upto {T : TypeId} {rv : Value} {gl gs : Nat} {H : World → List ByteArray → Prop} (M : Mth T rv gl gs H) (N : Nat) : Mth T rv gl gs (fun w l => H w l ∧ l.length ≤ N) where
  less := fun w l i j h hi hj => by
    obtain ⟨r, h1, h2⟩ := M.less w l i j h.1 hi hj
    exact ⟨r, h1, h2.mono fun e w' q => ⟨q.1, q.2, h.2⟩⟩
  swap := fun w l i j h hi hj => by
    obtain ⟨r, h1, h2⟩ := M.swap w l i j h.1 hi hj
    exact ⟨r, h1, h2.mono fun e w' q => ⟨q.1, q.2, by rw [swl_len]; exact h.2⟩⟩
  el := M.el
  es := M.es
theorem MthL.upto {T : TypeId} {rv : Value} {gn : Nat} {H : World → List ByteArray → Prop} (M : MthL T rv gn H) (N : Nat) : MthL T rv gn (fun w l => H w l ∧ l.length ≤ N) where
  len := fun w l h => by
    obtain ⟨r, h1, h2⟩ := M.len w l h.1
    exact ⟨r, h1, h2.mono fun e w' q => ⟨q.1, q.2, h.2⟩⟩
  en := M.en
/-- container/heap's Push over the heap's object -/
theorem heap_push (w0 : World) (S0 : Nat → Prop) (gg : Nat) (s : ByteArray) (l : List ByteArray) (w : World) (hw : HS w0 S0 gg w l) (hb : l.length < 8796093022208) (hz : s.size ≤ 140737488355328) (hh : HP Le 0 l.length l) :
    Calls Try.prog 20 #[.iface 45 (.pointer (some ⟨gg, 0, none⟩)), .iface 9 (.string s)] w fun e w' => ∃ l' : List ByteArray, e = .returned (.tuple #[]) ∧ HS w0 S0 gg w' l' ∧ l'.Perm (s :: l) ∧ HP Le 0 (l.length + 1) l' :=
  (hpush_any ((mth_ho w0 S0 gg).upto _) ((mthl_ho w0 S0 gg).upto _) (mthp_ho w0 S0 gg) s l w ⟨hw, Nat.le_of_lt hb⟩ hb hz hh).mono fun _ _ ⟨l', h1, h2, h3, h4⟩ => ⟨l', h1, h2.1, h3, h4⟩
/-- container/heap's Pop over the heap's object: the least string -/
theorem heap_pop (w0 : World) (S0 : Nat → Prop) (gg n : Nat) (x : ByteArray) (m l : List ByteArray) (w : World) (hw : HS w0 S0 gg w l) (hb : l.length ≤ 8796093022208) (hl : l.length = n + 1) (hh : HP Le 0 (n + 1) l) (hs : (x :: m).Pairwise Le) (hp : l.Perm (x :: m)) :
    Calls Try.prog 21 #[.iface 45 (.pointer (some ⟨gg, 0, none⟩))] w fun e w' => ∃ l' : List ByteArray, e = .returned (.iface 9 (.string x)) ∧ HS w0 S0 gg w' l' ∧ l'.Perm m ∧ HP Le 0 n l' :=
  (hpop_any ((mth_ho w0 S0 gg).upto _) ((mthl_ho w0 S0 gg).upto _) (mthp_ho w0 S0 gg) n x m l w ⟨hw, hb⟩ hb hl hh hs hp).mono fun _ _ ⟨l', h1, h2, h3, h4⟩ => ⟨l', h1, h2.1, h3, h4⟩
end Go.Proofs.Ytjokgiheabmolaa.Hep
