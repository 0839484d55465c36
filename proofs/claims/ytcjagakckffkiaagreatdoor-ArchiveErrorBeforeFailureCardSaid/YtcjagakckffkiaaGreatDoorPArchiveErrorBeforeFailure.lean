/-
  The Go function 'paxtarlaw17.ArchiveErrorBeforeFailure' returns true for every input, and leaves its arguments as they were. Conditions: none but the row's own: the package-level variables that it lists hold what the program's text lays there (the card ties this), and each string and each slice that is read takes at most 2^47 - 4096 bytes.
-/
import Derived.Test.YtcjagakckffkiaaGreatDoorQ40
import Derived.ProofKit
import Derived.OpenShut
import Derived.ShutString
import Derived.ChangeOld
import Derived.Test.YtcjagakckffkiaaGreatDoorFArchiveErrorBeforeFailure
import Derived.Test.YtcjagakckffkiaaGreatDoorCards
import Derived.Test.YtcjagakckffkiaaGreatDoorTie
import Derived.Lay
import Derived.LaidMore
import Derived.SevenTiedAt
import Derived.Test.YtcjagakckffkiaaGreatDoorQ1
namespace Go.Proofs.YtcjagakckffkiaaGreatDoor.archiveErrorBeforeFailure
open Go.ChangeShapes Go.WideShapes Go.ChangeAt Go.RowKit
open Go.ChangeMaps (open_string shut_string)
theorem own:ownKnob Tryz.prog.godebug=none:=by kernel_rfl
theorem laidOut:laidOutB Tryz.prog=true:=Fct.laidOut
set_option maxRecDepth 100000 in
theorem lifted (os:Os)(started:os.Started)(H:Type)(enc:TypeId×Value->H) :
 ReturnsInHanded {} Tryz.checked os 11 .any (fun w args=> (Rows.archiveErrorBeforeFailureSpec.pre enc Tryz.prog Tryz.f11 Rows.archiveErrorBeforeFailureRow.domain false w args/\laidMetH Tryz.prog Rows.archiveErrorBeforeFailureRow.laid w)/\sizedMet enc Tryz.prog Tryz.f11 (OpenSpec.ofChange Rows.archiveErrorBeforeFailureSpec) false w args) (Rows.archiveErrorBeforeFailureSpec.post enc Tryz.prog Tryz.f11 false true false false) :=by
 refine returnsInHanded_of_change_and (C:=Tryz.checked) (X:=fun w _=>laidMetH Tryz.prog Rows.archiveErrorBeforeFailureRow.laid w) (fun _ _ _ hh h=>h.of_heap hh) own started (by kernel_rfl) Tryz.func11
  (ChangeSpec.witness_shaped (enc:=enc) (C:=Tryz.checked) (os:=os) (X:=fun w _=>laidMetH Tryz.prog Rows.archiveErrorBeforeFailureRow.laid w) false (World.laidAll Tryz.prog os Rows.archiveErrorBeforeFailureRow.laid) #[.slice none 0 0,.int .u16 0] 8 (World.laidAll_os _ _ _)
    (World.shaped_of_ZipB (by kernel_rfl) (by kernel_rfl)) (by kernel_rfl) (by kernel_rfl) (by kernel_rfl)
    (by rw[MakeChecks.laidMetH_plain _ _ _ (by kernel_rfl)];exact laidMet_laidAll _ (by kernel_rfl) (by kernel_rfl))) ?_
 intro W base args ds gs before hval0 hW hcnd _ hLaid _;have hval:∀(j:Nat) t v,Tryz.f11.params[j]? =some t->args[j]? =some v->Value.okWide Tryz.prog W .any base t v:=hval0;have hW':=hW;obtain⟨p,q,hA0,hV,rfl,hfz,hnd⟩:=hW;have hA:DataW.TrodAll enc Tryz.prog W 0 (fun _=>true) true Tryz.f11.params.toList args.toList ds p:=hA0;rw[Tryz.params11]at hA hval;obtain⟨v0,vs0,d0,ds0,p0,q0,hargs,rfl,rfl,h0,r0⟩:=trodAll_cons hA;obtain⟨v1,vs1,d1,ds1,p1,q1,rfl,rfl,rfl,h1,r1⟩:=trodAll_cons r0;obtain⟨rfl,rfl,rfl⟩:=trodAll_nil r1;obtain rfl:args= #[v0,v1] :=by cases args;simp_all
 obtain⟨rfl,rfl⟩:=trodVars_none hV;obtain⟨a0,len0,cap0,rfl⟩:=okWide_slice Tryz.underlying25 (hval 0 25 v0 rfl rfl);have k0:=h0;have lt0:∀x∈p0,x.block<W.heap.size:=by obtain⟨m,hm⟩:=k0;exact DataW.trod_lt m _ _ _ hm
 obtain⟨z0,w0⟩:∃zs,aB .u8 W a0 len0 cap0 zs:=by
  obtain⟨fuel,hf⟩:=h0;rcases open_ints Tryz.underlying25 Tryz.underlying5 (by kernel_rfl) hf with⟨hcs,_⟩|⟨x,l,c,zs,hcs,_,hl,hm,hz,_,hcell,hwz⟩
  ·simp[Value.cells]at hcs;obtain⟨rfl,rfl,rfl⟩:=hcs;exact⟨[],aB.nil⟩
  ·simp[Value.cells]at hcs;obtain⟨rfl,rfl,rfl⟩:=hcs;exact⟨_,aB.mk' hl hm (by simpa using hz) hcell hwz⟩
 obtain⟨a1,rfl,rfl,rfl,w1⟩:=open_int Tryz.underlying57 (hval 1 57 v1 rfl rfl) h1;clear hA0 hval0;refine(fA a0 len0 cap0 z0 a1 W (dO.gR hLaid (by kernel_rfl)) w0 w1).mono fun e W' ⟨he,jV⟩=>?_;subst he;exact⟨_,rfl,_,_,_,[],_,[],hW',trodAll_mk1 (shut_bool Tryz.underlying4 _),(trodAll_cons_mk (Below.trod laidOut (by kernel_rfl) (of_decide_eq_true (by kernel_rfl)) k0 jV lt0) (trodAll_cons_mk (shut_int Tryz.underlying57 w1) trodAll_mk0)),rfl,jV.frame _,fun h=>by cases h⟩
theorem proved:Rows.ArchiveErrorBeforeFailureSaid:=
 OpenClaim.holds_of_wide 11 Tryz.f11 rfl rfl rfl rfl rfl rfl rfl ⟨rfl,rfl,rfl,rfl,rfl⟩ rfl rfl rfl rfl rfl FArchiveErrorBeforeFailure.fnamed Tryz.func11 FArchiveErrorBeforeFailure.closed FArchiveErrorBeforeFailure.inst FArchiveErrorBeforeFailure.wrap
  (fun os started H enc _=>lifted os started H enc)
theorem card:Rows.ArchiveErrorBeforeFailureCardSaid:=
 Claim7.holds_tied_plain_at .later [] [.data,.data,.data,.data,.sentinel,.sentinel,.data,.data,.pinned] true (true,"27c61408b14d384d66d888a4d68bc2c32a1b10f80d106d659f3a841be4402673") true proved (fun _ h=>by cases h) FArchiveErrorBeforeFailure.wft (fun _ h=>by cases h) archiveErrorBeforeFailure_row_tie rfl ⟨rfl,rfl⟩ Fct.main rfl
  (fun f fn hf hfn=>by
    obtain rfl:f=11:=Option.some.inj (FArchiveErrorBeforeFailure.fnamed.symm.trans hf) |>.symm
    obtain rfl:fn=Tryz.f11:= (Option.some.inj (Tryz.func11.symm.trans hfn)).symm
    exact⟨Fct.looks,fun j t ht=>by
     rw[Tryz.params11]at ht;have hm:t∈ [25,57] :=by simpa using Array.mem_of_getElem? ht
     have h9: (!Tryz.prog.wantsStandIn t) =true:=List.all_eq_true.1 FArchiveErrorBeforeFailure.stand t hm;exact(show Tryz.prog.wantsStandIn t=false by simpa using h9)⟩)
  FArchiveErrorBeforeFailure.goes
end Go.Proofs.YtcjagakckffkiaaGreatDoor.archiveErrorBeforeFailure
