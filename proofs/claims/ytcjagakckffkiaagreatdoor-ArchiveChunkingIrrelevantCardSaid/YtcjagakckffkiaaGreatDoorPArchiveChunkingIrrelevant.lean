/-
  The Go function 'paxtarlaw17.ArchiveChunkingIrrelevant' returns true for every input, and leaves its arguments as they were. Conditions: none but the row's own: the package-level variables that it lists hold what the program's text lays there (the card ties this), and each string and each slice that is read takes at most 2^47 - 4096 bytes.
-/
import Derived.Test.YtcjagakckffkiaaGreatDoorQ42
import Derived.ProofKit
import Derived.OpenShut
import Derived.ShutString
import Derived.ChangeOld
import Derived.Test.YtcjagakckffkiaaGreatDoorFArchiveChunkingIrrelevant
import Derived.Test.YtcjagakckffkiaaGreatDoorCards
import Derived.Test.YtcjagakckffkiaaGreatDoorTie
import Derived.Lay
import Derived.LaidMore
import Derived.SevenTiedAt
import Derived.Test.YtcjagakckffkiaaGreatDoorQ7
import Derived.Test.YtcjagakckffkiaaGreatDoorQ1
namespace Go.Proofs.YtcjagakckffkiaaGreatDoor.archiveChunkingIrrelevant
open Go.ChangeShapes Go.WideShapes Go.ChangeAt Go.RowKit
open Go.ChangeMaps (open_string shut_string)
theorem own:ownKnob Tryz.prog.godebug=none:=by kernel_rfl
theorem laidOut:laidOutB Tryz.prog=true:=Fct.laidOut
set_option maxRecDepth 100000 in
theorem lifted (os:Os)(started:os.Started)(H:Type)(enc:TypeId×Value->H) :
 ReturnsInHanded {} Tryz.checked os 9 .any (fun w args=> (Rows.archiveChunkingIrrelevantSpec.pre enc Tryz.prog Tryz.f9 Rows.archiveChunkingIrrelevantRow.domain false w args/\laidMetH Tryz.prog Rows.archiveChunkingIrrelevantRow.laid w)/\sizedMet enc Tryz.prog Tryz.f9 (OpenSpec.ofChange Rows.archiveChunkingIrrelevantSpec) false w args) (Rows.archiveChunkingIrrelevantSpec.post enc Tryz.prog Tryz.f9 false true false false) :=by
 refine returnsInHanded_of_change_and (C:=Tryz.checked) (X:=fun w _=>laidMetH Tryz.prog Rows.archiveChunkingIrrelevantRow.laid w) (fun _ _ _ hh h=>h.of_heap hh) own started (by kernel_rfl) Tryz.func9
  (ChangeSpec.witness_shaped (enc:=enc) (C:=Tryz.checked) (os:=os) (X:=fun w _=>laidMetH Tryz.prog Rows.archiveChunkingIrrelevantRow.laid w) false (World.laidAll Tryz.prog os Rows.archiveChunkingIrrelevantRow.laid) #[.slice none 0 0,.slice none 0 0,.agg #[.slice none 0 0,.int .i64 0]] 8 (World.laidAll_os _ _ _)
    (World.shaped_of_ZipB (by kernel_rfl) (by kernel_rfl)) (by kernel_rfl) (by kernel_rfl) (by kernel_rfl)
    (by rw[MakeChecks.laidMetH_plain _ _ _ (by kernel_rfl)];exact laidMet_laidAll _ (by kernel_rfl) (by kernel_rfl))) ?_
 intro W base args ds gs before hval0 hW hcnd hsz hLaid _;have hval:∀(j:Nat) t v,Tryz.f9.params[j]? =some t->args[j]? =some v->Value.okWide Tryz.prog W .any base t v:=hval0;have hW':=hW;obtain⟨p,q,hA0,hV,rfl,hfz,hnd⟩:=hW;have hA:DataW.TrodAll enc Tryz.prog W 0 (fun _=>true) true Tryz.f9.params.toList args.toList ds p:=hA0;rw[Tryz.params9]at hA hval hsz;obtain⟨v0,vs0,d0,ds0,p0,q0,hargs,rfl,rfl,h0,r0⟩:=trodAll_cons hA;obtain⟨v1,vs1,d1,ds1,p1,q1,rfl,rfl,rfl,h1,r1⟩:=trodAll_cons r0;obtain⟨v2,vs2,d2,ds2,p2,q2,rfl,rfl,rfl,h2,r2⟩:=trodAll_cons r1;obtain⟨rfl,rfl,rfl⟩:=trodAll_nil r2;obtain rfl:args= #[v0,v1,v2] :=by cases args;simp_all
 obtain⟨rfl,rfl⟩:=trodVars_none hV;obtain⟨a0,len0,cap0,rfl⟩:=okWide_slice Tryz.underlying22 (hval 0 22 v0 rfl rfl);have k0:=h0;have lt0:∀x∈p0,x.block<W.heap.size:=by obtain⟨m,hm⟩:=k0;exact DataW.trod_lt m _ _ _ hm
 obtain⟨z0,w0⟩:=Tre.kh Tryz.underlying22 Tryz.underlying77 Tryz.underlying3 Tryz.underlying9 Tryz.underlying3 Tryz.underlying9 Tryz.underlying25 Tryz.underlying5 Tryz.underlying3 (by kernel_rfl) (by kernel_rfl) (by kernel_rfl) h0 (fun n hn=>of_decide_eq_true (List.all_eq_true.1 hsz n (DataW.weights_mem_each (j:=0) (t:=22) rfl rfl n hn)));obtain⟨a1,len1,cap1,rfl⟩:=okWide_slice Tryz.underlying25 (hval 1 25 v1 rfl rfl);have k1:=h1;have lt1:∀x∈p1,x.block<W.heap.size:=by obtain⟨m,hm⟩:=k1;exact DataW.trod_lt m _ _ _ hm
 obtain⟨z1,w1⟩:∃zs,aB .u8 W a1 len1 cap1 zs:=by
  obtain⟨fuel,hf⟩:=h1;rcases open_ints Tryz.underlying25 Tryz.underlying5 (by kernel_rfl) hf with⟨hcs,_⟩|⟨x,l,c,zs,hcs,_,hl,hm,hz,_,hcell,hwz⟩
  ·simp[Value.cells]at hcs;obtain⟨rfl,rfl,rfl⟩:=hcs;exact⟨[],aB.nil⟩
  ·simp[Value.cells]at hcs;obtain⟨rfl,rfl,rfl⟩:=hcs;exact⟨_,aB.mk' hl hm (by simpa using hz) hcell hwz⟩
 obtain⟨b2,rfl,_⟩:=okWide_struct Tryz.underlying34 (hval 2 34 v2 rfl rfl);have k2:=h2;have lt2:∀x∈p2,x.block<W.heap.size:=by obtain⟨m,hm⟩:=k2;exact DataW.trod_lt m _ _ _ hm
 obtain⟨a2,len2,cap2,z2,f2,rfl,w2,wf2⟩:=rh Tryz.underlying34 Tryz.underlying32 Tryz.underlying3 Tryz.underlying2 (by kernel_rfl) h2;clear hA0 hval0;refine(fF a0 len0 cap0 z0 a1 len1 cap1 z1 a2 len2 cap2 z2 f2 W (dO.gR hLaid (by kernel_rfl)) w0 w1 w2 wf2).mono fun e W' ⟨he,jV⟩=>?_;subst he;exact⟨_,rfl,_,_,_,[],_,[],hW',trodAll_mk1 (shut_bool Tryz.underlying4 _),(trodAll_cons_mk (Below.trod laidOut (by kernel_rfl) (of_decide_eq_true (by kernel_rfl)) k0 jV lt0) (trodAll_cons_mk (Below.trod laidOut (by kernel_rfl) (of_decide_eq_true (by kernel_rfl)) k1 jV lt1) (trodAll_cons_mk (Below.trod laidOut (by kernel_rfl) (of_decide_eq_true (by kernel_rfl)) k2 jV lt2) trodAll_mk0))),rfl,jV.frame _,fun h=>by cases h⟩
theorem proved:Rows.ArchiveChunkingIrrelevantSaid:=
 OpenClaim.holds_of_wide 9 Tryz.f9 rfl rfl rfl rfl rfl rfl rfl ⟨rfl,rfl,rfl,rfl,rfl⟩ rfl rfl rfl rfl rfl FArchiveChunkingIrrelevant.fnamed Tryz.func9 FArchiveChunkingIrrelevant.closed FArchiveChunkingIrrelevant.inst FArchiveChunkingIrrelevant.wrap
  (fun os started H enc _=>lifted os started H enc)
theorem card:Rows.ArchiveChunkingIrrelevantCardSaid:=
 Claim7.holds_tied_plain_at .later [] [.data,.data,.data,.data,.sentinel,.sentinel,.data,.data,.pinned] true (true,"27c61408b14d384d66d888a4d68bc2c32a1b10f80d106d659f3a841be4402673") true proved (fun _ h=>by cases h) FArchiveChunkingIrrelevant.wft (fun _ h=>by cases h) archiveChunkingIrrelevant_row_tie rfl ⟨rfl,rfl⟩ Fct.main rfl
  (fun f fn hf hfn=>by
    obtain rfl:f=9:=Option.some.inj (FArchiveChunkingIrrelevant.fnamed.symm.trans hf) |>.symm
    obtain rfl:fn=Tryz.f9:= (Option.some.inj (Tryz.func9.symm.trans hfn)).symm
    exact⟨Fct.looks,fun j t ht=>by
     rw[Tryz.params9]at ht;have hm:t∈ [22,25,34] :=by simpa using Array.mem_of_getElem? ht
     have h9: (!Tryz.prog.wantsStandIn t) =true:=List.all_eq_true.1 FArchiveChunkingIrrelevant.stand t hm;exact(show Tryz.prog.wantsStandIn t=false by simpa using h9)⟩)
  FArchiveChunkingIrrelevant.goes
end Go.Proofs.YtcjagakckffkiaaGreatDoor.archiveChunkingIrrelevant
