/-
  Layer 9: slices.Equal of records.
-/
import Derived.Test.YtokjmehecfjhmaaDoorPxrRz
import Derived.Test.YtokjmehecfjhmaaDoorRecRow
namespace Go.Proofs.YtokjmehecfjhmaaDoor.Pxr
open Go.RowKit

def recFs : Array Field := #[{ name := "Key", type := 9, offset := 0, embedded := false, tag := "", pkgPath := "", byteOffset := 0 }, { name := "Value", type := 9, offset := 1, embedded := false, tag := "", pkgPath := "", byteOffset := 16 }]
theorem run_eqR (ht : Tryd.prog.underlying 38 = some (.struct recFs)) (hp : Tryd.prog.stoodInHeld 38 = false) (k v : ByteArray) (w : World) :
    (Op.equalIn 10000 38 (.agg #[.string k, .string v]) (.agg #[.string k, .string v])).run Tryd.prog w = .ok true w := by
  have hf : Tryd.prog.fieldsOf 38 = recFs := by unfold Program.fieldsOf; rw [ht]
  rw [run_equalIn_struct w 9999 38 _ _ (by rw [hf]; exact ht) hp, hf]
  have u9 := Tryd.underlying9
  simp [recFs, Op.eqFields, part, isAgg, u9, go_sem]

set_option maxHeartbeats 2000000 in
set_option maxRecDepth 100000 in
/-- slices that hold the same records are equal -/
theorem eqr_same (a : Option Addr) (n c : Nat) (b : Option Addr) (d : Nat) (rs : List Rec) (w : World) (hn : rs.length = n) (hA : RecsIn w a rs) (hB : RecsIn w b rs) (hm : n ≤ 1000000000) :
    Calls Tryd.prog 15 #[.slice a n c, .slice b n d] w fun e w' => e = .returned (.bool true) ∧ Below w.heap.size w w' := by
  have HA := Lib.hid hA; have HB := Lib.hid hB; have HN := Lib.hid hn
  have hq : ∀ k v w, (Op.equalIn 10000 38 (.agg #[.string k, .string v]) (.agg #[.string k, .string v])).run Tryd.prog w = .ok true w := fun k v w => run_eqR Tryd.underlying38 (by kernel_rfl) k v w
  have hg : Tryd.prog.eqGuardType Tryd.prog.depth 38 = false := by kernel_rfl
  clear hA hB hn
  go_enter Tryd.func15, Tryd.ntmps15
  go_wp2
  go_loopw [13] (fun i wr => ∃ j : Nat, i = .int .i64 j ∧ j ≤ n ∧ Below w.heap.size w wr) (fun i _ => n - (intOf i).toNat)
  case atStart => exact ⟨0, rfl, Nat.zero_le _, Below.refl _ _⟩
  case round =>
    obtain ⟨j, rfl, hj, hb⟩ := hrel
    have HL := Lib.hid hb
    clear hb
    by_cases hjn : j < n
    · obtain ⟨r, hr⟩ := get_some (show j < rs.length by rw [HN.out]; exact hjn)
      obtain ⟨K, D⟩ := r
      obtain ⟨b1, o1, rfl, _, c0', c1'⟩ := (HA.out.below HL.out).get j _ hr
      obtain ⟨b2, o2, rfl, _, d0', d1'⟩ := (HB.out.below HL.out).get j _ hr
      have c0 : wr.cell? ⟨b1, o1 + j * 2, none⟩ = some (.string K) := c0'
      have c1 : wr.cell? ⟨b1, o1 + j * 2 + 1, none⟩ = some (.string D) := c1'
      have d0 : wr.cell? ⟨b2, o2 + j * 2, none⟩ = some (.string K) := d0'
      have d1 : wr.cell? ⟨b2, o2 + j * 2 + 1, none⟩ = some (.string D) := d1'
      have j1 : (j : Int) < n := by omega
      have hq1 := hq K D
      clear c0' c1' d0' d1' hr hjn
      go_wp2_with fail
      go_quiet (fail)
      go_wp2
      go_roundw
      case rel => exact ⟨j + 1, by go_num, by omega, HL.out.trans (drewN_below _ _ _)⟩
      case measure => simp [intOf]; omega
    · have j1 : ¬ (j : Int) < n := by omega
      clear hjn
      go_wp2
      go_ret
      exact ⟨rfl, HL.out⟩
end Go.Proofs.YtokjmehecfjhmaaDoor.Pxr
