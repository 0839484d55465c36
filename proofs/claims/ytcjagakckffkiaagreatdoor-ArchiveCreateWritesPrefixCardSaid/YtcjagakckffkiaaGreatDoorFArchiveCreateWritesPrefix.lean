/-
  Closed facts on the function of ArchiveCreateWritesPrefix, each by itself.
-/
import Derived.Test.YtcjagakckffkiaaGreatDoorFct
import Derived.Test.YtcjagakckffkiaaGreatDoorRows
namespace Go.Proofs.YtcjagakckffkiaaGreatDoor.FArchiveCreateWritesPrefix
open Go.ChangeShapes Go.WideShapes Go.ChangeAt Go.RowKit

theorem fnamed : Tryz.checked.prog.funcNamed Rows.archiveCreateWritesPrefixRow.func = some 5 := by kernel_rfl
theorem inPlace : (Rows.archiveCreateWritesPrefixRow.inPlace == Tryz.checked.prog.inPlace 5) = true := by kernel_rfl
theorem unf : (Rows.archiveCreateWritesPrefixRow.unfollowed == Tryz.checked.prog.unfollowed 5) = true := by kernel_rfl
theorem rec_ : (Rows.archiveCreateWritesPrefixRow.recurses == Tryz.checked.prog.recurses 5) = true := by kernel_rfl
theorem named : (Rows.archiveCreateWritesPrefixRow.named == Tryz.checked.prog.varsNamed 5) = true := by kernel_rfl
theorem goes : false = Rows.archiveCreateWritesPrefixRow.goesBy Tryz.checked.prog := by kernel_rfl
theorem wft : Rows.archiveCreateWritesPrefixRow.wfByText (OpenSpec.ofChange Rows.archiveCreateWritesPrefixSpec) = true := by kernel_rfl
theorem wf : Rows.archiveCreateWritesPrefixRow.wf (OpenSpec.ofChange Rows.archiveCreateWritesPrefixSpec) = true := by kernel_rfl
theorem stand : ([22, 34].all fun u => !Tryz.checked.prog.wantsStandIn u) = true := by kernel_rfl
theorem inst : Tryz.f5.isInstance Tryz.checked.prog Rows.archiveCreateWritesPrefixRow.origin Rows.archiveCreateWritesPrefixRow.targs := of_decide_eq_true (by kernel_rfl)
theorem wrap : Tryz.f5.isWrapper Tryz.checked.prog Rows.archiveCreateWritesPrefixRow.wrapper Rows.archiveCreateWritesPrefixRow.mainSum := by unfold Func.isWrapper; first | (rw [if_pos (by decide +kernel)]; kernel_rfl) | (rw [if_neg (by decide +kernel)]; exact ⟨rfl, rfl⟩)
section
variable {P : Program} {fn : Func} {s : ChangeSpec} {c : OpenClaim}
theorem put {f : FuncId} (wf : c.wf (OpenSpec.ofChange s) = true) (laidOut : laidOutB P = true) (mr : mapsRowed P = true) (c4 : fn.params.all (P.readableRec ·) = true) (c5 : namedTie P c.named s.vars = true)
    (c6 : (c.stops == []) = true) (c7 : (P.stops == []) = true) (c8 : (c.knobs == []) = true) (c9 : (P.stopKnobs == []) = true)
    (c10 : (c.inPlace == P.inPlace f) = true) (c11 : (c.unfollowed == P.unfollowed f) = true) (c12 : (c.recurses == P.recurses f) = true) (c13 : (c.named == P.varsNamed f) = true)
    (c14 : (c.maps == (fn.params.toList ++ s.plain.varTypes P).any (P.mapsRec ·)) = true) (c15 : (c.ifaces == (fn.params.toList ++ s.plain.varTypes P).any (P.ifacesRec ·)) = true) (c16 : (c.mapsOut == P.mapsAmong fn.resultTypes.toList) = true)
    (c17 : (c.loops == (fn.params.toList ++ s.plain.varTypes P).any (P.loopsFrom ·)) = true) (c18 : (c.wideKeys == (fn.params.toList ++ s.plain.varTypes P ++ fn.resultTypes.toList).any (P.wideKeysFrom ·)) = true)
    (c19 : s.vars.all (P.varReadable ·) = true) (c20 : fn.resultTypes.all (fun t => P.readableRec t && decide (t < P.types.size)) = true) (c21 : (c.ifacesOut == fn.resultTypes.toList.any (P.ifacesRec ·)) = true) (c22 : (c.loopsOut == fn.resultTypes.toList.any (P.loopsFrom ·)) = true)
    (c23 : (c.plainKeys == P.plainKeys) = true) (c24 : c.shortTexts.isNone = true) (c25 : P.stopsHeard = true) (c26 : P.mayEnter = true) (c27 : (c.lifted == P.liftsFinal) = true) (c28 : (P.make == some c.make) = true)
    (c29 : (c.kinds == (if c.domain.isEmpty then [] else fn.params.toList.map fun t => match P.underlying t with | some (.int k) => some k | _ => none)) = true) (c30 : (c.pinned == c.pinnedBy) = true)
    (c31 : (c.veiled == (fn.params.toList ++ s.plain.varTypes P ++ fn.resultTypes.toList).any (P.veiledRec ·)) = true) (c32 : c.veiledFits P fn.params.toList (fn.params.toList ++ s.plain.varTypes P ++ fn.resultTypes.toList) = true) :
    joinedFacts P f fn s c = true := by
  unfold joinedFacts
  exact (Fct.and2 (Fct.and2 (Fct.and2 (Fct.and2 (Fct.and2 (Fct.and2 (Fct.and2 (Fct.and2 (Fct.and2 (Fct.and2 (Fct.and2 (Fct.and2 (Fct.and2 (Fct.and2 (Fct.and2 (Fct.and2 (Fct.and2 (Fct.and2 (Fct.and2 (Fct.and2 (Fct.and2 (Fct.and2 (Fct.and2 (Fct.and2 (Fct.and2 (Fct.and2 (Fct.and2 (Fct.and2 (Fct.and2 (Fct.and2 (Fct.and2 wf laidOut) mr) c4) c5) c6) c7) c8) c9) c10) c11) c12) c13) c14) c15) c16) c17) c18) c19) c20) c21) c22) c23) c24) c25) c26) c27) c28) c29) c30) c31) c32)
end
theorem closed : joinedFacts Tryz.checked.prog 5 Tryz.f5 Rows.archiveCreateWritesPrefixSpec Rows.archiveCreateWritesPrefixRow = true :=
  put wf Fct.laidOut Fct.mapsRowed (by kernel_rfl) (by kernel_rfl) (by kernel_rfl) Fct.stops (by kernel_rfl) Fct.knobs inPlace unf rec_ named (by kernel_rfl) (by kernel_rfl) (by kernel_rfl) (by kernel_rfl) (by kernel_rfl) (by kernel_rfl) (by kernel_rfl) (by kernel_rfl) (by kernel_rfl)
    (by rw [Fct.plainKeys]; rfl) (by kernel_rfl) Fct.heard Fct.enter (by rw [Fct.lifts]; rfl) (by rw [Fct.make]; rfl) (by kernel_rfl) (by kernel_rfl) (by kernel_rfl) (by kernel_rfl)
end Go.Proofs.YtcjagakckffkiaaGreatDoor.FArchiveCreateWritesPrefix
