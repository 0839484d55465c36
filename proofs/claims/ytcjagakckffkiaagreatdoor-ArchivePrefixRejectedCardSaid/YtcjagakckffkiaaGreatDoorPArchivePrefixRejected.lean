/-
  The Go function 'paxtarlaw17.ArchivePrefixRejected' returns true for every input, and leaves its arguments as they were. Conditions: none but the row's own: the package-level variables that it lists hold what the program's text lays there (the card ties this), and each string and each slice that is read takes at most 2^47 - 4096 bytes.
-/
import Derived.Test.YtcjagakckffkiaaGreatDoorQ41
import Derived.ProofKit
import Derived.OpenShut
import Derived.ShutString
import Derived.ChangeOld
import Derived.Test.YtcjagakckffkiaaGreatDoorFArchivePrefixRejected
import Derived.Test.YtcjagakckffkiaaGreatDoorCards
import Derived.Test.YtcjagakckffkiaaGreatDoorTie
import Derived.Lay
import Derived.LaidMore
import Derived.SevenTiedAt
import Derived.Test.YtcjagakckffkiaaGreatDoorQ7
import Derived.Test.YtcjagakckffkiaaGreatDoorQ1
namespace Go.Proofs.YtcjagakckffkiaaGreatDoor.archivePrefixRejected
open Go.ChangeShapes Go.WideShapes Go.ChangeAt Go.RowKit
open Go.ChangeMaps (open_string shut_string)
theorem own:ownKnob Tryz.prog.godebug=none:=by kernel_rfl
theorem laidOut:laidOutB Tryz.prog=true:=Fct.laidOut
set_option maxRecDepth 100000 in
theorem lifted (os:Os)(started:os.Started)(H:Type)(enc:TypeId×Value->H) :
 ReturnsInHanded {} Tryz.checked os 7 .any (fun w args=> (Rows.archivePrefixRejectedSpec.pre enc Tryz.prog Tryz.f7 Rows.archivePrefixRejectedRow.domain false w args/\laidMetH Tryz.prog Rows.archivePrefixRejectedRow.laid w)/\sizedMet enc Tryz.prog Tryz.f7 (OpenSpec.ofChange Rows.archivePrefixRejectedSpec) false w args) (Rows.archivePrefixRejectedSpec.post enc Tryz.prog Tryz.f7 false true false false) :=by
 refine returnsInHanded_of_change_and (C:=Tryz.checked) (X:=fun w _=>laidMetH Tryz.prog Rows.archivePrefixRejectedRow.laid w) (fun _ _ _ hh h=>h.of_heap hh) own started (by kernel_rfl) Tryz.func7
  (ChangeSpec.witness_shaped (enc:=enc) (C:=Tryz.checked) (os:=os) (X:=fun w _=>laidMetH Tryz.prog Rows.archivePrefixRejectedRow.laid w) false (World.laidAll Tryz.prog os Rows.archivePrefixRejectedRow.laid) #[.slice none 0 0,.int .u16 0,.slice none 0 0] 8 (World.laidAll_os _ _ _)
    (World.shaped_of_ZipB (by kernel_rfl) (by kernel_rfl)) (by kernel_rfl) (by kernel_rfl) (by kernel_rfl)
    (by rw[MakeChecks.laidMetH_plain _ _ _ (by kernel_rfl)];exact laidMet_laidAll _ (by kernel_rfl) (by kernel_rfl))) ?_
 intro W base args ds gs before hval0 hW hcnd hsz hLaid _;have hval:∀(j:Nat) t v,Tryz.f7.params[j]? =some t->args[j]? =some v->Value.okWide Tryz.prog W .any base t v:=hval0;have hW':=hW;obtain⟨p,q,hA0,hV,rfl,hfz,hnd⟩:=hW;have hA:DataW.TrodAll enc Tryz.prog W 0 (fun _=>true) true Tryz.f7.params.toList args.toList ds p:=hA0;rw[Tryz.params7]at hA hval hsz;obtain⟨v0,vs0,d0,ds0,p0,q0,hargs,rfl,rfl,h0,r0⟩:=trodAll_cons hA;obtain⟨v1,vs1,d1,ds1,p1,q1,rfl,rfl,rfl,h1,r1⟩:=trodAll_cons r0;obtain⟨v2,vs2,d2,ds2,p2,q2,rfl,rfl,rfl,h2,r2⟩:=trodAll_cons r1;obtain⟨rfl,rfl,rfl⟩:=trodAll_nil r2;obtain rfl:args= #[v0,v1,v2] :=by cases args;simp_all
 obtain⟨rfl,rfl⟩:=trodVars_none hV;obtain⟨a0,len0,cap0,rfl⟩:=okWide_slice Tryz.underlying22 (hval 0 22 v0 rfl rfl);have k0:=h0;have lt0:∀x∈p0,x.block<W.heap.size:=by obtain⟨m,hm⟩:=k0;exact DataW.trod_lt m _ _ _ hm
 obtain⟨z0,w0⟩:=Tre.kh Tryz.underlying22 Tryz.underlying77 Tryz.underlying3 Tryz.underlying9 Tryz.underlying3 Tryz.underlying9 Tryz.underlying25 Tryz.underlying5 Tryz.underlying3 (by kernel_rfl) (by kernel_rfl) (by kernel_rfl) h0 (fun n hn=>of_decide_eq_true (List.all_eq_true.1 hsz n (DataW.weights_mem_each (j:=0) (t:=22) rfl rfl n hn)));obtain⟨a1,rfl,rfl,rfl,w1⟩:=open_int Tryz.underlying57 (hval 1 57 v1 rfl rfl) h1;obtain⟨a2,len2,cap2,rfl⟩:=okWide_slice Tryz.underlying25 (hval 2 25 v2 rfl rfl);have k2:=h2;have lt2:∀x∈p2,x.block<W.heap.size:=by obtain⟨m,hm⟩:=k2;exact DataW.trod_lt m _ _ _ hm
 obtain⟨z2,w2⟩:∃zs,aB .u8 W a2 len2 cap2 zs:=by
  obtain⟨fuel,hf⟩:=h2;rcases open_ints Tryz.underlying25 Tryz.underlying5 (by kernel_rfl) hf with⟨hcs,_⟩|⟨x,l,c,zs,hcs,_,hl,hm,hz,_,hcell,hwz⟩
  ·simp[Value.cells]at hcs;obtain⟨rfl,rfl,rfl⟩:=hcs;exact⟨[],aB.nil⟩
  ·simp[Value.cells]at hcs;obtain⟨rfl,rfl,rfl⟩:=hcs;exact⟨_,aB.mk' hl hm (by simpa using hz) hcell hwz⟩
 clear hA0 hval0;refine(ic a0 len0 cap0 z0 a1 a2 len2 cap2 z2 W (dO.gR hLaid (by kernel_rfl)) w0 w1 w2).mono fun e W' ⟨he,jV⟩=>?_;subst he;exact⟨_,rfl,_,_,_,[],_,[],hW',trodAll_mk1 (shut_bool Tryz.underlying4 _),(trodAll_cons_mk (Below.trod laidOut (by kernel_rfl) (of_decide_eq_true (by kernel_rfl)) k0 jV lt0) (trodAll_cons_mk (shut_int Tryz.underlying57 w1) (trodAll_cons_mk (Below.trod laidOut (by kernel_rfl) (of_decide_eq_true (by kernel_rfl)) k2 jV lt2) trodAll_mk0))),rfl,jV.frame _,fun h=>by cases h⟩
theorem proved:Rows.ArchivePrefixRejectedSaid:=
 OpenClaim.holds_of_wide 7 Tryz.f7 rfl rfl rfl rfl rfl rfl rfl ⟨rfl,rfl,rfl,rfl,rfl⟩ rfl rfl rfl rfl rfl FArchivePrefixRejected.fnamed Tryz.func7 FArchivePrefixRejected.closed FArchivePrefixRejected.inst FArchivePrefixRejected.wrap
  (fun os started H enc _=>lifted os started H enc)
theorem card:Rows.ArchivePrefixRejectedCardSaid:=
 Claim7.holds_tied_plain_at .later [] [.data,.data,.data,.data,.sentinel,.sentinel,.data,.data,.pinned] true (true,"27c61408b14d384d66d888a4d68bc2c32a1b10f80d106d659f3a841be4402673") true proved (fun _ h=>by cases h) FArchivePrefixRejected.wft (fun _ h=>by cases h) archivePrefixRejected_row_tie rfl ⟨rfl,rfl⟩ Fct.main rfl
  (fun f fn hf hfn=>by
    obtain rfl:f=7:=Option.some.inj (FArchivePrefixRejected.fnamed.symm.trans hf) |>.symm
    obtain rfl:fn=Tryz.f7:= (Option.some.inj (Tryz.func7.symm.trans hfn)).symm
    exact⟨Fct.looks,fun j t ht=>by
     rw[Tryz.params7]at ht;have hm:t∈ [22,57,25] :=by simpa using Array.mem_of_getElem? ht
     have h9: (!Tryz.prog.wantsStandIn t) =true:=List.all_eq_true.1 FArchivePrefixRejected.stand t hm;exact(show Tryz.prog.wantsStandIn t=false by simpa using h9)⟩)
  FArchivePrefixRejected.goes
end Go.Proofs.YtcjagakckffkiaaGreatDoor.archivePrefixRejected
