/-
  The Go function 'paxtarlaw17.ArchiveCreateWritesPrefix' returns true for every input, and leaves its arguments as they were. Conditions: none but the row's own: the package-level variables that it lists hold what the program's text lays there (the card ties this), and each string and each slice that is read takes at most 2^47 - 4096 bytes.
-/
import Derived.Test.YtcjagakckffkiaaGreatDoorS42
import Derived.ProofKit
import Derived.ShutString
import Derived.ChangeOld
import Derived.Test.YtcjagakckffkiaaGreatDoorFArchiveCreateWritesPrefix
import Derived.Test.YtcjagakckffkiaaGreatDoorCards
import Derived.Test.YtcjagakckffkiaaGreatDoorTie
import Derived.Lay
import Derived.LaidMore
import Derived.SevenTiedAt
set_option maxRecDepth 100000
namespace Go.Proofs.YtcjagakckffkiaaGreatDoor.archiveCreateWritesPrefix
open Go.ChangeShapes Go.WideShapes Go.ChangeAt Go.RowKit
open Go.ChangeMaps (open_string shut_string)
theorem own:ownKnob Tryz.prog.godebug=none:=by kernel_rfl
theorem laidOut:laidOutB Tryz.prog=true:=Fct.laidOut
theorem lifted (os:Os)(started:os.Started)(H:Type)(enc:TypeId×Value->H) :
 ReturnsInHanded {} Tryz.checked os 5 .any (fun w args=> (Rows.archiveCreateWritesPrefixSpec.pre enc Tryz.prog Tryz.f5 Rows.archiveCreateWritesPrefixRow.domain false w args/\laidMetH Tryz.prog Rows.archiveCreateWritesPrefixRow.laid w)/\sizedMet enc Tryz.prog Tryz.f5 (OpenSpec.ofChange Rows.archiveCreateWritesPrefixSpec) false w args) (Rows.archiveCreateWritesPrefixSpec.post enc Tryz.prog Tryz.f5 false true false false) :=by
 refine returnsInHanded_of_change_and (C:=Tryz.checked) (X:=fun w _=>laidMetH Tryz.prog Rows.archiveCreateWritesPrefixRow.laid w) (fun _ _ _ hh h=>h.of_heap hh) own started (by kernel_rfl) Tryz.func5
  (ChangeSpec.witness_shaped (enc:=enc) (C:=Tryz.checked) (os:=os) (X:=fun w _=>laidMetH Tryz.prog Rows.archiveCreateWritesPrefixRow.laid w) false (World.laidAll Tryz.prog os Rows.archiveCreateWritesPrefixRow.laid) #[.slice none 0 0,.agg #[.slice none 0 0,.int .i64 0]] 8 (World.laidAll_os _ _ _)
    (World.shaped_of_ZipB (by kernel_rfl) (by kernel_rfl)) (by kernel_rfl) (by kernel_rfl) (by kernel_rfl)
    (by rw[MakeChecks.laidMetH_plain _ _ _ (by kernel_rfl)];exact laidMet_laidAll _ (by kernel_rfl) (by kernel_rfl))) ?_
 intro W base args ds gs before hval0 hW hcnd hsz hLaid _;have hval:∀(j:Nat) t v,Tryz.f5.params[j]? =some t->args[j]? =some v->Value.okWide Tryz.prog W .any base t v:=hval0;have hW':=hW;obtain⟨p,q,hA0,hV,rfl,hfz,hnd⟩:=hW;have hA:DataW.TrodAll enc Tryz.prog W 0 (fun _=>true) true Tryz.f5.params.toList args.toList ds p:=hA0;rw[Tryz.params5]at hA hval hsz;obtain⟨v0,vs0,d0,ds0,p0,q0,hargs,rfl,rfl,h0,r0⟩:=trodAll_cons hA;obtain⟨v1,vs1,d1,ds1,p1,q1,rfl,rfl,rfl,h1,r1⟩:=trodAll_cons r0;obtain⟨rfl,rfl,rfl⟩:=trodAll_nil r1;obtain rfl:args= #[v0,v1] :=by cases args;simp_all
 obtain⟨rfl,rfl⟩:=trodVars_none hV;obtain⟨a0,len0,cap0,rfl⟩:=okWide_slice Tryz.underlying22 (hval 0 22 v0 rfl rfl);have k0:=h0;have lt0:∀x∈p0,x.block<W.heap.size:=by obtain⟨m,hm⟩:=k0;exact DataW.trod_lt m _ _ _ hm
 obtain⟨z0,w0⟩:=Tre.ru Tryz.underlying22 Tryz.underlying77 Tryz.underlying3 Tryz.underlying9 Tryz.underlying3 Tryz.underlying9 Tryz.underlying25 Tryz.underlying5 Tryz.underlying3 (by kernel_rfl) (by kernel_rfl) (by kernel_rfl) h0 (fun n hn=>of_decide_eq_true (List.all_eq_true.1 hsz n (DataW.weights_mem_each (j:=0) (t:=22) rfl rfl n hn)));obtain⟨b1,rfl,_⟩:=okWide_struct Tryz.underlying34 (hval 1 34 v1 rfl rfl);have k1:=h1;have lt1:∀x∈p1,x.block<W.heap.size:=by obtain⟨m,hm⟩:=k1;exact DataW.trod_lt m _ _ _ hm
 obtain⟨a1,len1,cap1,z1,f1,rfl,w1,Gr⟩:=mW Tryz.underlying34 Tryz.underlying32 Tryz.underlying3 Tryz.underlying2 (by kernel_rfl) h1;clear hA0 hval0;refine(eF a0 len0 cap0 z0 a1 len1 cap1 z1 f1 W (fQ.mL hLaid (by kernel_rfl)) w0 w1 Gr).mono fun e W' ⟨he,nT⟩=>?_;subst he;exact⟨_,rfl,_,_,_,[],_,[],hW',trodAll_mk1 (shut_bool Tryz.underlying4 _),(trodAll_cons_mk (Below.trod laidOut (by kernel_rfl) (of_decide_eq_true (by kernel_rfl)) k0 nT lt0) (trodAll_cons_mk (Below.trod laidOut (by kernel_rfl) (of_decide_eq_true (by kernel_rfl)) k1 nT lt1) trodAll_mk0)),rfl,nT.frame _,fun h=>by cases h⟩
theorem proved:Rows.ArchiveCreateWritesPrefixSaid:=
 OpenClaim.holds_of_wide 5 Tryz.f5 rfl rfl rfl rfl rfl rfl rfl ⟨rfl,rfl,rfl,rfl,rfl⟩ rfl rfl rfl rfl rfl FArchiveCreateWritesPrefix.fnamed Tryz.func5 FArchiveCreateWritesPrefix.closed FArchiveCreateWritesPrefix.inst FArchiveCreateWritesPrefix.wrap
  (fun os started H enc _=>lifted os started H enc)
theorem card:Rows.ArchiveCreateWritesPrefixCardSaid:=
 Claim7.holds_tied_plain_at .later [] [.data,.data,.data,.data,.sentinel,.sentinel,.data,.data,.pinned] true (true,"27c61408b14d384d66d888a4d68bc2c32a1b10f80d106d659f3a841be4402673") true proved (fun _ h=>by cases h) FArchiveCreateWritesPrefix.wft (fun _ h=>by cases h) archiveCreateWritesPrefix_row_tie rfl ⟨rfl,rfl⟩ Fct.main rfl
  (fun f fn hf hfn=>by
    obtain rfl:f=5:=Option.some.inj (FArchiveCreateWritesPrefix.fnamed.symm.trans hf) |>.symm
    obtain rfl:fn=Tryz.f5:= (Option.some.inj (Tryz.func5.symm.trans hfn)).symm
    exact⟨Fct.looks,fun j t ht=>by
     rw[Tryz.params5]at ht;have hm:t∈ [22,34] :=by simpa using Array.mem_of_getElem? ht
     have h9: (!Tryz.prog.wantsStandIn t) =true:=List.all_eq_true.1 FArchiveCreateWritesPrefix.stand t hm;exact(show Tryz.prog.wantsStandIn t=false by simpa using h9)⟩)
  FArchiveCreateWritesPrefix.goes
end Go.Proofs.YtcjagakckffkiaaGreatDoor.archiveCreateWritesPrefix
