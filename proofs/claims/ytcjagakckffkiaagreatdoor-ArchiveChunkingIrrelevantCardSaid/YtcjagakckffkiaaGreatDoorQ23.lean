import Derived.Test.YtcjagakckffkiaaGreatDoorQ19
import Derived.Test.YtcjagakckffkiaaGreatDoorQ14
import Derived.Test.YtcjagakckffkiaaGreatDoorQ22
import Derived.Test.YtcjagakckffkiaaGreatDoorQ1
import Derived.Test.YtcjagakckffkiaaGreatDoorQ6
import Derived.Test.YtcjagakckffkiaaGreatDoorQ11
import Derived.Test.YtcjagakckffkiaaGreatDoorQ8
import Derived.Test.YtcjagakckffkiaaGreatDoorQ0
import Derived.Laws.IdiomCopy
import Derived.Laws.IdiomStrings
import Derived.Deep.DeepMust
import Derived.Test.YtcjagakckffkiaaGreatDoorQ20
import Derived.Test.YtcjagakckffkiaaGreatDoorQ21
import Derived.Test.YtcjagakckffkiaaGreatDoorQ9
import Derived.Test.YtcjagakckffkiaaGreatDoorQ12
import Derived.Test.YtcjagakckffkiaaGreatDoorQ13
import Derived.Test.YtcjagakckffkiaaGreatDoorQ5
import Derived.BigQuiet
import Derived.Deep.CutRange
import Derived.Test.YtcjagakckffkiaaGreatDoorQ10
import Derived.Test.YtcjagakckffkiaaGreatDoorQ7
import Derived.Deep.Strs
import Derived.Maps.AppendAt
import Derived.OwnWalk
import Derived.Laws.CopyRow
set_option maxHeartbeats 16000000
namespace Go.Proofs.YtcjagakckffkiaaGreatDoor
open Go.RowKit
theorem bL.bS.out {w w':World}{lo hi:Nat}{a:Option Addr}{rs:List bL.Rec}(h:bL.bS w a rs)(ho:Out lo hi w w')(ha:∀x,a=some x->hi<=x.block) :bL.bS w' a rs:=by
 rcases h with h|⟨b,off,rfl,hb,hr⟩
 ·exact .inl h
 ·have e:w'.heap[b]? =w.heap[b]? :=ho.block b hb (.inr (ha _ rfl));refine .inr ⟨b,off,rfl,Nat.lt_of_lt_of_le hb ho.size,fun i r hi=>?_⟩;obtain⟨c0,c1⟩:=hr i r hi;exact⟨(World.cell?_of_block (a:=⟨b,_,none⟩) e).trans c0,(World.cell?_of_block (a:=⟨b,_,none⟩) e).trans c1⟩
end Go.Proofs.YtcjagakckffkiaaGreatDoor
namespace Go.Proofs.YtcjagakckffkiaaGreatDoor.dO
open Go.RowKit Go.Proofs.YtcjagakckffkiaaGreatDoor.Fit bL Pnm
section
variable {lo hi q:Nat} {Z:List Int} {E:Int} {o:Nat}
set_option maxRecDepth 100000 in
theorem zu (w:World)(h:eH w lo hi q Z E o 0)(hE:E=11\/E=4)(h4:bM Z E o 0=4) :
 Calls Tryz.prog 111 #[.pointer (some ⟨q,0,none⟩)] w fun e w'=>e= .returned (.tuple #[.agg (Ust.bA 0 emp emp emp 0 0).toArray,.int .i64 (fu Z o 0:Nat),.int .i64 5])/\eH w' lo hi q Z E (fu Z o 0) (bM Z E o 0)/\Out lo hi w w':=by
 have HO:=ad mJ;have HZ:=ad BU;have H:=ad h;have HS:=ad h.size;have ZB:=ad h.bd;have HEE:=ad hE;obtain⟨V,hV⟩:=named (bM Z E o 0);obtain⟨O,hO⟩:=named (fu Z o 0);rw[<- hO.out];rw[<- hV.out]at h4;rw[<- hV.out];have n4: (V==4) =true:=by simp[h4]
 clear h hE h4;go_enter Tryz.func111,Tryz.ntmps111;go_wp2_with (first| (refine ag rfl 130 rfl Ust.cr HZ.out ?_;intro w1 h1 b1;have G1:=ad h1;have B1:=ad b1;clear h1 b1));have R1:=ad (H.out.below B1.out);have U1:Hid (Out lo hi w w1) :=Out.aq B1.out ah;refine(dh w1 R1.out HEE.out).mono ?_;rintro e w2 ⟨b2,c2,rfl,l2,i2,x2,r2,u2⟩;rw[<- hV.out,<- hO.out]at r2;rw[<- hV.out];have R2:=ad r2;have U2:=ad (U1.out.trans u2);have G2:=ad (G1.out.out u2 (.inr HS.out.1));have I2:=ad i2;have L2:=ad l2;clear l2 i2 x2 r2 u2;go_wp2_with fail;refine(cW w2 R2.out).mono ?_;rintro e w3 ⟨rfl,rfl⟩;go_wp2_with (first| (refine ae rfl 130 _ _ rfl w.heap.size rfl (Ust.bA 0 emp emp emp 0 0) Ust.cr rfl 130 G2.out HO.out.2 rfl (aY _ _ _ _ _ _) ?_;intro wy gy ty;have GY:=ad gy;have TY:=ad ty;clear gy ty));exact bodyPost_ret (Go.Proofs.YtcjagakckffkiaaGreatDoor.Fit.ay Tryz.results111 HO.out _ w.heap.size rfl _ (Ust.bA 0 emp emp emp 0 0) GY.out rfl) rfl ⟨rfl,R2.out.out (Out.aD TY.out ah (Nat.lt_succ_self _)) (.inl HS.out.1),U2.out.late TY.out ah⟩
set_option maxRecDepth 100000 in
theorem yo (w:World)(h:eH w lo hi q Z E o 0)(hE:E=11\/E=4)(h4:bM Z E o 0≠4)(h0:bM Z E o 0≠0) :
 Calls Tryz.prog 111 #[.pointer (some ⟨q,0,none⟩)] w fun e w'=>e= .returned (.tuple #[.agg (Ust.bA 0 emp emp emp 0 0).toArray,.int .i64 (fu Z o 0:Nat),.int .i64 (bM Z E o 0)])/\eH w' lo hi q Z E (fu Z o 0) (bM Z E o 0)/\Out lo hi w w':=by
 have HO:=ad mJ;have HZ:=ad BU;have H:=ad h;have HS:=ad h.size;have ZB:=ad h.bd;have HEE:=ad hE;obtain⟨V,hV⟩:=named (bM Z E o 0);obtain⟨O,hO⟩:=named (fu Z o 0);rw[<- hO.out,<- hV.out];rw[<- hV.out]at h4 h0;have n4: (V==4) =false:=by simp[h4]
 have n0: (V !=0) =true:=by simp[h0]
 clear h hE h4 h0;go_enter Tryz.func111,Tryz.ntmps111;go_wp2_with (first| (refine ag rfl 130 rfl Ust.cr HZ.out ?_;intro w1 h1 b1;have G1:=ad h1;have B1:=ad b1;clear h1 b1));have R1:=ad (H.out.below B1.out);have U1:Hid (Out lo hi w w1) :=Out.aq B1.out ah;refine(dh w1 R1.out HEE.out).mono ?_;rintro e w2 ⟨b2,c2,rfl,l2,i2,x2,r2,u2⟩;rw[<- hV.out,<- hO.out]at r2;rw[<- hV.out];have R2:=ad r2;have U2:=ad (U1.out.trans u2);have G2:=ad (G1.out.out u2 (.inr HS.out.1));have I2:=ad i2;have L2:=ad l2;clear l2 i2 x2 r2 u2;go_wp2_with fail;refine(cW w2 R2.out).mono ?_;rintro e w3 ⟨rfl,rfl⟩;go_wp2_with (first| (refine ae rfl 130 _ _ rfl w.heap.size rfl (Ust.bA 0 emp emp emp 0 0) Ust.cr rfl 130 G2.out HO.out.2 rfl (aY _ _ _ _ _ _) ?_;intro wy gy ty;have GY:=ad gy;have TY:=ad ty;clear gy ty));exact bodyPost_ret (Go.Proofs.YtcjagakckffkiaaGreatDoor.Fit.ay Tryz.results111 HO.out _ w.heap.size rfl _ (Ust.bA 0 emp emp emp 0 0) GY.out rfl) rfl ⟨rfl,R2.out.out (Out.aD TY.out ah (Nat.lt_succ_self _)) (.inl HS.out.1),U2.out.late TY.out ah⟩
set_option maxRecDepth 100000 in
theorem Bq (w:World)(h:eH w lo hi q Z E o 0)(hE:E=11\/E=4)(h0:bM Z E o 0=0)(hd:Ust.fB ((Z.drop o).take 512)≠0) :
 Calls Tryz.prog 111 #[.pointer (some ⟨q,0,none⟩)] w fun e w'=>e= .returned (.tuple #[.agg (Ust.bA 0 emp emp emp 0 0).toArray,.int .i64 o,.int .i64 (Ust.fB ((Z.drop o).take 512))])/\eH w' lo hi q Z E (fu Z o 0) (bM Z E o 0)/\Out lo hi w w':=by
 have HO:=ad mJ;have HZ:=ad BU;have H:=ad h;have HS:=ad h.size;have ZB:=ad h.bd;have HEE:=ad hE;obtain⟨V,hV⟩:=named (bM Z E o 0);obtain⟨O,hO⟩:=named (fu Z o 0);obtain⟨B,hB⟩:=named ((Z.drop o).take 512);rw[<- hB.out]at hd;rw[<- hB.out];obtain⟨D,hD⟩:=named (Ust.fB B);rw[<- hD.out]at hd;rw[<- hD.out];have HDE:Hid (D≠0) :=hd;have n0: (D !=0) =true:=by simp[hd]
 rw[<- hO.out,<- hV.out];obtain⟨_,hg5⟩:=uo hE h0;obtain⟨g1,_,g3⟩:=fx (E:=E) hg5;have HV0:Hid (V=0) :=by show _=_;rw[hV.out];exact h0
 have HOO:Hid (O=o+512) :=by show _=_;rw[hO.out];exact g3
 rw[<- hB.out]at g1;have HG1:=ad g1;have BL:Hid (B.length=512) :=by show _=_;rw[hB.out,List.length_take,List.length_drop];omega
 have BB:Hid (Bytes B) :=by show Bytes _;rw[hB.out];exact(ZB.out.2.drop _).take _
 clear h hE h0 hd g1 g3;go_enter Tryz.func111,Tryz.ntmps111;go_wp2_with (first| (refine ag rfl 130 rfl Ust.cr HZ.out ?_;intro w1 h1 b1;have G1:=ad h1;have B1:=ad b1;clear h1 b1));have R1:=ad (H.out.below B1.out);have U1:Hid (Out lo hi w w1) :=Out.aq B1.out ah;refine(dh w1 R1.out HEE.out).mono ?_;rintro e w2 ⟨b2,c2,rfl,l2,i2,x2,r2,u2⟩;rw[<- hV.out,<- hO.out]at r2;rw[<- hV.out];have R2:=ad r2;have U2:=ad (U1.out.trans u2);have G2:=ad (G1.out.out u2 (.inr HS.out.1));have I2:=ad i2;have L2:=ad l2;clear l2 i2 x2 r2 u2;have I2':Hid (BytesIn w2 b2 B) :=by show BytesIn _ _ _;rw[<- HG1.out];exact I2.out.bytes (by rw[HG1.out];exact BB.out)
 have L2':Hid (512<=c2/\c2<=maxLen) :=by show _/\_;have:=L2.out;rw[HG1.out,BL.out]at this;exact this
 rw[HG1.out,BL.out];rw[HV0.out];go_wp2_with fail;refine(Ust.vK b2 512 c2 B w2 I2'.out BL.out BB.out L2'.out.1 L2'.out.2).mono ?_;rintro e w4 ⟨rfl,b4⟩;rw[<- hD.out];have R4:=ad (R2.out.below b4);have U4:=ad (U2.out.bG b4 U2.out.size);have G4:=ad (G2.out.below b4 G2.out.lt);clear b4;rw[Ew (by rw[<- hD.out];exact HDE.out)];go_wp2_with (first| (refine ag rfl 130 rfl Ust.cr HZ.out ?_;intro w5 g5 b5;have X5:=ad g5;have B5:=ad b5;clear g5 b5) | (refine ae rfl 130 _ _ rfl w4.heap.size rfl (Ust.cr) Ust.cr rfl 130 X5.out HO.out.2 rfl (aY _ _ _ _ _ _) ?_;intro w6 g6 t6;have X6:=ad g6;have A6:=ad (B5.out.trans (t6.below ah));have G6:=ad (G4.out.below A6.out G4.out.lt);clear g6 t6;have e0:=X6.out.get 0 rfl;have e1:=X6.out.get 1 rfl;have e2:=X6.out.get 2 rfl;have e3:=X6.out.get 3 rfl;have e4:=X6.out.get 4 rfl;have e5:=X6.out.get 5 rfl));have R6:=ad (R4.out.below A6.out);have U6:=ad (U4.out.bG A6.out U4.out.size);refine(ka w6 R6.out o HOO.out).mono ?_;rintro e w7 ⟨rfl,rfl⟩;go_wp2_with (first| (refine ae rfl 130 _ _ rfl w.heap.size rfl (Ust.bA 0 emp emp emp 0 0) Ust.cr rfl 130 G6.out HO.out.2 rfl (aY _ _ _ _ _ _) ?_;intro wy gy ty;have GY:=ad gy;have TY:=ad ty;clear gy ty));exact bodyPost_ret (Go.Proofs.YtcjagakckffkiaaGreatDoor.Fit.ay Tryz.results111 HO.out _ w.heap.size rfl _ (Ust.bA 0 emp emp emp 0 0) GY.out rfl) rfl ⟨rfl,R6.out.out (Out.aD TY.out ah (Nat.lt_succ_self _)) (.inl HS.out.1),U6.out.late TY.out ah⟩
set_option maxRecDepth 100000 in
theorem Fj (w:World)(h:eH w lo hi q Z E o 0)(hE:E=11\/E=4)(h0:bM Z E o 0=0)(hd:Ust.fB ((Z.drop o).take 512) =0) :
 Calls Tryz.prog 111 #[.pointer (some ⟨q,0,none⟩)] w fun e w'=>e= .returned (.tuple #[.agg (QN (iB ((Z.drop o).take 512))).toArray,.int .i64 0,.int .i64 0])/\eH w' lo hi q Z E (fu Z o 0) (bM Z E o 0)/\Out lo hi w w':=by
 have HO:=ad mJ;have HZ:=ad BU;have H:=ad h;have HS:=ad h.size;have ZB:=ad h.bd;have HEE:=ad hE;obtain⟨V,hV⟩:=named (bM Z E o 0);obtain⟨O,hO⟩:=named (fu Z o 0);obtain⟨B,hB⟩:=named ((Z.drop o).take 512);rw[<- hB.out]at hd;rw[<- hB.out];show Calls _ _ _ _ fun e w'=>e= .returned (.tuple #[.agg (Ust.bA (Ust.dT B) (Ust.oN B) (Ust.og B) (Ust.oP B) (Ust.pT B) (Ust.pS B)).toArray,.int .i64 0,.int .i64 0])/\_;obtain⟨D,hD⟩:=named (Ust.fB B);rw[<- hD.out]at hd;have HDE:Hid (D=0) :=hd;rw[<- hO.out,<- hV.out];obtain⟨_,hg5⟩:=uo hE h0;obtain⟨g1,_,g3⟩:=fx (E:=E) hg5;have HV0:Hid (V=0) :=by show _=_;rw[hV.out];exact h0
 have HOO:Hid (O=o+512) :=by show _=_;rw[hO.out];exact g3
 rw[<- hB.out]at g1;have HG1:=ad g1;have BL:Hid (B.length=512) :=by show _=_;rw[hB.out,List.length_take,List.length_drop];omega
 have BB:Hid (Bytes B) :=by show Bytes _;rw[hB.out];exact(ZB.out.2.drop _).take _
 clear h hE h0 hd g1 g3;go_enter Tryz.func111,Tryz.ntmps111;go_wp2_with (first| (refine ag rfl 130 rfl Ust.cr HZ.out ?_;intro w1 h1 b1;have G1:=ad h1;have B1:=ad b1;clear h1 b1));have R1:=ad (H.out.below B1.out);have U1:Hid (Out lo hi w w1) :=Out.aq B1.out ah;refine(dh w1 R1.out HEE.out).mono ?_;rintro e w2 ⟨b2,c2,rfl,l2,i2,x2,r2,u2⟩;rw[<- hV.out,<- hO.out]at r2;rw[<- hV.out];have R2:=ad r2;have U2:=ad (U1.out.trans u2);have G2:=ad (G1.out.out u2 (.inr HS.out.1));have I2:=ad i2;have L2:=ad l2;clear l2 i2 x2 r2 u2;have I2':Hid (BytesIn w2 b2 B) :=by show BytesIn _ _ _;rw[<- HG1.out];exact I2.out.bytes (by rw[HG1.out];exact BB.out)
 have L2':Hid (512<=c2/\c2<=maxLen) :=by show _/\_;have:=L2.out;rw[HG1.out,BL.out]at this;exact this
 rw[HG1.out,BL.out];rw[HV0.out];go_wp2_with fail;refine(Ust.vK b2 512 c2 B w2 I2'.out BL.out BB.out L2'.out.1 L2'.out.2).mono ?_;rintro e w4 ⟨rfl,b4⟩;rw[<- hD.out];have R4:=ad (R2.out.below b4);have U4:=ad (U2.out.bG b4 U2.out.size);have G4:=ad (G2.out.below b4 G2.out.lt);clear b4;rw[HDE.out,LI (hD.out.symm.trans HDE.out)];go_wp2_with (first| (refine ag rfl 130 rfl Ust.cr HZ.out ?_;intro w5 g5 b5;have X5:=ad g5;have B5:=ad b5;clear g5 b5) | (refine ae rfl 130 _ _ rfl w4.heap.size rfl (Ust.bA (Ust.dT B) (Ust.oN B) (Ust.og B) (Ust.oP B) (Ust.pT B) (Ust.pS B)) Ust.cr rfl 130 X5.out HO.out.2 rfl (aY _ _ _ _ _ _) ?_;intro w6 g6 t6;have X6:=ad g6;have A6:=ad (B5.out.trans (t6.below ah));have G6:=ad (G4.out.below A6.out G4.out.lt);clear g6 t6;have e0:=X6.out.get 0 rfl;have e1:=X6.out.get 1 rfl;have e2:=X6.out.get 2 rfl;have e3:=X6.out.get 3 rfl;have e4:=X6.out.get 4 rfl;have e5:=X6.out.get 5 rfl) | (refine ae rfl 130 _ _ rfl w.heap.size rfl (Ust.bA (Ust.dT B) (Ust.oN B) (Ust.og B) (Ust.oP B) (Ust.pT B) (Ust.pS B)) Ust.cr rfl 130 G6.out HO.out.2 rfl (aY _ _ _ _ _ _) ?_;intro wy gy ty;have GY:=ad gy;have TY:=ad ty;clear gy ty));have R6:=ad (R4.out.below A6.out);have U6:=ad (U4.out.bG A6.out U4.out.size);exact bodyPost_ret (Go.Proofs.YtcjagakckffkiaaGreatDoor.Fit.ay Tryz.results111 HO.out _ w.heap.size rfl _ (Ust.bA (Ust.dT B) (Ust.oN B) (Ust.og B) (Ust.oP B) (Ust.pT B) (Ust.pS B)) GY.out rfl) rfl ⟨rfl,R6.out.out (Out.aD TY.out ah (Nat.lt_succ_self _)) (.inl HS.out.1),U6.out.late TY.out ah⟩
theorem sU (w:World)(h:eH w lo hi q Z E o 0)(hE:E=11\/E=4) :
 Calls Tryz.prog 111 #[.pointer (some ⟨q,0,none⟩)] w fun e w'=>e= .returned (.tuple #[.agg (QN (Hx Z E o)).toArray,.int .i64 (Ec Z E o:Nat),.int .i64 (tj Z E o)])/\eH w' lo hi q Z E (fu Z o 0) (bM Z E o 0)/\Out lo hi w w':=by
 by_cases h0:bM Z E o 0=0
 ·by_cases hd:Ust.fB ((Z.drop o).take 512) =0
  ·obtain⟨e1,e2,e3⟩:=DQ h0 hd;rw[e1,e2,e3];exact Fj w h hE h0 hd
  ·obtain⟨e1,e2,e3⟩:=yk h0 hd;rw[e1,e2,e3];exact Bq w h hE h0 hd
 ·obtain⟨e1,e2,e3,_⟩:=uK h0;rw[e2,e3];by_cases h4:bM Z E o 0=4
  ·rw[e1,if_pos h4];exact zu w h hE h4
  ·rw[e1,if_neg h4];exact yo w h hE h4 h0
end
end Go.Proofs.YtcjagakckffkiaaGreatDoor.dO
namespace Go.Proofs.YtcjagakckffkiaaGreatDoor.dO
open Go.RowKit Go.Proofs.YtcjagakckffkiaaGreatDoor.Fit bL Pnm
theorem tF {zs:List Int} :dW zs↔∀x,x<zs.length->zs.getD x 0=0:=by
 unfold dW;constructor
 ·intro h x hx;rw[List.getD_eq_getElem?_getD,List.getElem?_eq_getElem hx];exact h _ (List.getElem_mem hx)
 ·intro h z hz;obtain⟨x,hx,rfl⟩:=List.mem_iff_getElem.1 hz;have:=h x hx;rw[List.getD_eq_getElem?_getD,List.getElem?_eq_getElem hx]at this;exact this
end Go.Proofs.YtcjagakckffkiaaGreatDoor.dO
namespace Go.Proofs.YtcjagakckffkiaaGreatDoor.Arc
open Go.RowKit Go.Proofs.YtcjagakckffkiaaGreatDoor.Fit Pnm Tre Flt dO Reb
theorem Fk {Z:List Int}{E:Int}{A:List Mb}{o:Nat}(h:bM Z E o 0≠0) :jX Z E A o=⟨[],fu Z o 0,if bM Z E o 0=4 then 5 else bM Z E o 0⟩:=by unfold jX;exact if_pos h
theorem zd {Z:List Int}{E:Int}{A:List Mb}{o:Nat}(h:bM Z E o 0=0)(z:¬dW ((Z.drop o).take 512)) :jX Z E A o=⟨[],o,18⟩:=by
 unfold jX;rw[if_neg (fun c=>c h)];exact if_pos z
theorem Gx {Z:List Int}{E:Int}{A:List Mb}{o:Nat}(h:bM Z E o 0=0)(z:dW ((Z.drop o).take 512)) :jX Z E A o=if bM Z E (o+512) 0=4 then⟨canon (aV A),o+512,0⟩else if bM Z E (o+512) 0=11 then⟨[],fu Z (o+512) 0,11⟩else⟨[],o+512,18⟩:=by
 unfold jX;rw[if_neg (fun c=>c h)];exact if_neg (fun c=>c z)
theorem Ku {Z:List Int}{E:Int}(A:List Mb)(o:Nat) : (jX Z E A o).p= (jX Z E [] o).p/\ (jX Z E A o).e= (jX Z E [] o).e/\ (jX Z E A o).n=if(jX Z E [] o).e=0 then canon (aV A)else [] :=by
 by_cases h1:bM Z E o 0=0
 ·by_cases h2:dW ((Z.drop o).take 512)
  ·rw[Gx h1 h2,Gx h1 h2];by_cases h3:bM Z E (o+512) 0=4
   ·rw[if_pos h3,if_pos h3];exact⟨rfl,rfl,rfl⟩
   ·rw[if_neg h3,if_neg h3];by_cases h4:bM Z E (o+512) 0=11
    ·rw[if_pos h4];exact⟨rfl,rfl,rfl⟩
    ·rw[if_neg h4];exact⟨rfl,rfl,rfl⟩
  ·rw[zd h1 h2,zd h1 h2];exact⟨rfl,rfl,rfl⟩
 ·rw[Fk h1,Fk h1];refine⟨rfl,rfl,?_⟩;show [] =if(if bM Z E o 0=4 then(5:Int)else bM Z E o 0) =0 then _ else _;rw[if_neg]
  split
  ·decide
  ·exact h1
end Go.Proofs.YtcjagakckffkiaaGreatDoor.Arc
namespace Go.Proofs.YtcjagakckffkiaaGreatDoor.Reb
open Go.RowKit Go.Proofs.YtcjagakckffkiaaGreatDoor.Fit Pnm Tre Flt
theorem kl (A:List Mb)(x:Mb)(k:Int)(p:ByteArray) :jL (A++ [x]) k p=match jL A k p with|some r=>some r|none=>if x.e.k=k/\x.e.p=p then some A.length else none:=by
 cases h:jL A k p with
 |some r=>
  obtain⟨h1,h2,h3,h4⟩:=eP.mp h;exact eP.mpr ⟨by rw[List.length_append];exact Nat.lt_of_lt_of_le h1 (Nat.le_add_right _ _),by rw[ju _ h1];exact h2,by rw[ju _ h1];exact h3,fun i hi=>by rw[ju _ (Nat.lt_trans hi h1)];exact h4 i hi⟩
 |none=>
  have hn:=nK.mp h;show _=if _ then _ else _;by_cases c:x.e.k=k/\x.e.p=p
  ·rw[if_pos c];exact eP.mpr ⟨by simp,by rw[nI];exact c.1,by rw[nI];exact c.2,fun i hi=>by rw[ju _ hi];exact hn i hi⟩
  ·rw[if_neg c];refine nK.mpr fun i hi=>?_;rw[List.length_append,List.length_singleton]at hi;by_cases e:i<A.length
   ·rw[ju _ e];exact hn i e
   ·obtain rfl:i=A.length:=by omega
    rw[nI];exact c
def Fm (F:Value->Option Value)(A:List Mb)(k:Int)(V:Nat->Value) :Prop:=∀p,F (.string p) = (jL A k p).map V
theorem Fm.nil (k:Int)(V:Nat->Value) :Fm (fun _=>none) [] k V:=fun _=>rfl
theorem Fm.stay {F:Value->Option Value}{A:List Mb}{k:Int}{V:Nat->Value}(h:Fm F A k V){x:Mb}(hx:x.e.k≠k) :Fm F (A++ [x]) k V:=fun p=>by
 rw[h p,kl]
 cases jL A k p with
 |some r=>rfl
 |none=>show _=Option.map V (if _ then _ else _);rw[if_neg fun c=>hx c.1,Option.map_none]
theorem Fm.add {F:Value->Option Value}{A:List Mb}{k:Int}{V:Nat->Value}(h:Fm F A k V){x:Mb}(hx:x.e.k=k)(hn:jL A k x.e.p=none) :Fm (rW F (.string x.e.p) (V A.length)) (A++ [x]) k V:=fun p=>by
 rw[kl];by_cases e:p=x.e.p
 ·subst e;rw[cP,hn];show _=Option.map V (if _ then _ else _);rw[if_pos ⟨hx,rfl⟩];rfl
 ·rw[eV (fun c=>e (by injection c)),h p]
  cases jL A k p with
  |some r=>rfl
  |none=>show _=Option.map V (if _ then _ else _);rw[if_neg fun c=>e c.2.symm,Option.map_none]
theorem Fm.set {F:Value->Option Value}{A:List Mb}{k:Int}{v:Value}(h:Fm F A k fun _=>v){x:Mb}(hx:x.e.k=k) :Fm (rW F (.string x.e.p) v) (A++ [x]) k fun _=>v:=fun p=>by
 rw[kl];by_cases e:p=x.e.p
 ·subst e;rw[cP]
  cases jL A k x.e.p with
  |some r=>rfl
  |none=>show _=Option.map _ (if _ then _ else _);rw[if_pos ⟨hx,rfl⟩];rfl
 ·rw[eV (fun c=>e (by injection c)),h p]
  cases jL A k p with
  |some r=>rfl
  |none=>show _=Option.map _ (if _ then _ else _);rw[if_neg fun c=>e c.2.symm,Option.map_none]
theorem Gd.new {A:List Mb}{x:Mb}(h:Gd A)(hx:iu A x.e=0)(k:Int) :jL A k x.e.p=none:=by
 refine nK.mpr fun i hi hc=>?_;have hl:= (fc.mp hx).2.1
 have h1:aP (af (ma A (A.length- 1)).e.p) (af x.e.p) <0:=by
  refine Decidable.not_not.mp fun hn=>hl ⟨by omega,by omega⟩
 rw[<- hc.2]at h1;by_cases e:i=A.length- 1
 ·rw[<- e,(cmp_eq _ _).mpr rfl]at h1;exact absurd h1 (by omega)
 ·have h2:=h.lt (i:=i) (j:=A.length- 1) (by omega) (by omega);rw[fQ]at h1;rw[h2]at h1;exact absurd h1 (by omega)
theorem BJ {A:List Mb}{x:Mb}{i:Nat}(h:Gd A)(hi:i<A.length) :dQ (A++ [x]) i=dQ A i:=by
 unfold dQ;rw[ju _ hi];by_cases k3: (ma A i).e.k=3
 ·obtain⟨r,hr,_,_,_,hf⟩:=h.file hi k3;have hs:jL (A++ [x]) 1 (ma A i).e.t=some r:=by rw[kl,hf]
  rw[if_pos k3,if_pos k3,hs,hf];dsimp only;rw[ju _ (Nat.lt_trans hr hi)]
 ·rw[if_neg k3,if_neg k3]
theorem zg {A:List Mb}{x:Mb}(h:Gd A) :aV (A++ [x]) =aV A++ [dQ (A++ [x]) A.length] :=by
 unfold aV;rw[List.length_append,List.length_singleton,List.range_succ,List.map_append]
 congr 1
 refine List.map_congr_left fun i hi=>BJ h (List.mem_range.mp hi)
theorem iV {A:List Mb}{x:Mb} :dQ (A++ [x]) A.length=if x.e.k=3 then(match jL A 1 x.e.t with|some r=>⟨1,x.e.p,x.e.m,emp,(ma A r).d,(r:Int) +1⟩|none=>Qy)else⟨x.e.k,x.e.p,x.e.m,x.e.t,x.d,if x.e.k=1 then(A.length:Int) +1 else 0⟩:=by
 unfold dQ;rw[nI];by_cases k3:x.e.k=3
 ·have hs:jL (A++ [x]) 1 x.e.t=jL A 1 x.e.t:=by
   rw[kl]
   cases jL A 1 x.e.t with
   |some r=>rfl
   |none=>show(if _ then _ else _) =_;rw[if_neg (by rw[k3];exact fun c=>absurd c.1 (by decide))]
  rw[if_pos k3,if_pos k3,hs]
  cases h:jL A 1 x.e.t with
  |some r=>show(⟨_,_,_,_,_,_⟩:Nd) =⟨_,_,_,_,_,_⟩;rw[ju _ (eP.mp h).1]
  |none=>rfl
 ·rw[if_neg k3,if_neg k3]
end Go.Proofs.YtcjagakckffkiaaGreatDoor.Reb
namespace Go.Proofs.YtcjagakckffkiaaGreatDoor.Flt
open Go.RowKit Go.ChangeShapes Go.Deep
structure ft where
 n:Mb
 a:Option Addr
 cap:Nat
abbrev fD (k:Int)(p:ByteArray)(m:Int)(t:ByteArray)(s:Int)(a:Option Addr)(n cap:Nat) :List Value:= [.int .i64 k,.string p,.int .i64 m,.string t,.int .i64 s,.slice a n cap]
abbrev lI (y:ft) :List Value:=fD y.n.e.k y.n.e.p y.n.e.m y.n.e.t y.n.e.s y.a y.n.d.length y.cap
instance:Inhabited ft:=⟨⟨⟨⟨0,⟨#[]⟩,0,⟨#[]⟩,0⟩,[]⟩,none,0⟩⟩
def bZ (ys:List ft) :List Value:=ys.flatMap lI
theorem eB (y:ft)(ys:List ft) :bZ (y::ys) =lI y++bZ ys:=by unfold bZ;rw[List.flatMap_cons]
theorem iv:∀ys:List ft,(bZ ys).length=ys.length*6
 | [] =>rfl
 |y::ys=>by
  rw[eB,List.length_append,iv ys,List.length_cons];simp;omega
theorem mq:∀(ys:List ft) (i:Nat) (y:ft),ys[i]? =some y->∀j v,(lI y)[j]? =some v-> (bZ ys)[i*6+j]? =some v
 | [],i,y,h,_,_,_=>by simp at h
 |q::ys,i,y,h,j,v,hv=>by
  rw[eB]
  have hj:j<6:=by
   have:= (List.getElem?_eq_some_iff.mp hv).1
   simpa using this
  cases i with
  |zero=>
   simp at h;subst h;rw[Nat.zero_mul,Nat.zero_add,List.getElem?_append_left (by simpa using hj)];exact hv
  |succ i=>
   rw[List.getElem?_append_right (by simp;omega)];have:=mq ys i y (by simpa using h) j v hv;rw[<- this]
   congr 1
   simp;omega
def jH (w:World)(b off:Nat)(ys:List ft) :Prop:=∀i y,ys[i]? =some y->∀j v,(lI y)[j]? =some v->w.cell? ⟨b,off+i*6+j,none⟩=some v
theorem jH.c {w:World}{b off:Nat}{ys:List ft}(h:jH w b off ys){i:Nat}{y:ft}(hi:ys[i]? =some y) :
 w.cell? ⟨b,off+i*6,none⟩=some (.int .i64 y.n.e.k)/\w.cell? ⟨b,off+i*6+1,none⟩=some (.string y.n.e.p)/\w.cell? ⟨b,off+i*6+2,none⟩=some (.int .i64 y.n.e.m)/\w.cell? ⟨b,off+i*6+3,none⟩=some (.string y.n.e.t)/\w.cell? ⟨b,off+i*6+4,none⟩=some (.int .i64 y.n.e.s)/\w.cell? ⟨b,off+i*6+5,none⟩=some (.slice y.a y.n.d.length y.cap) :=
 ⟨h i y hi 0 _ rfl,h i y hi 1 _ rfl,h i y hi 2 _ rfl,h i y hi 3 _ rfl,h i y hi 4 _ rfl,h i y hi 5 _ rfl⟩
theorem jH.block {w w':World}{b off:Nat}{ys:List ft}(h:jH w b off ys)(e:w'.heap[b]? =w.heap[b]?) :jH w' b off ys:=fun i y hi j v hv=>by
 have:=h i y hi j v hv;unfold World.cell? at this⊢;rw[e];exact this
theorem jH.below {w w':World}{b off B:Nat}{ys:List ft}(h:jH w b off ys)(hb:Below B w w')(hB:b<B) :jH w' b off ys:=h.block (hb.block b hB)
def Bg (w:World)(a:Option Addr)(ys:List ft) :Prop:=ys= []\/∃b off,a=some ⟨b,off,none⟩/\b<w.heap.size/\jH w b off ys
theorem Bg.below {w w':World}{a:Option Addr}{ys:List ft}(h:Bg w a ys)(hb:Below w.heap.size w w') :Bg w' a ys:=by
 rcases h with h|⟨b,off,h1,h2,h3⟩
 ·exact .inl h
 ·exact .inr ⟨b,off,h1,Nat.lt_of_lt_of_le h2 hb.size,h3.below hb h2⟩
structure mC (w:World) (y:ft) :Prop where
 k: (Lit.int .i64 y.n.e.k).wf=true
 p:y.n.e.p.size<=140737488355328
 m: (Lit.int .i64 y.n.e.m).wf=true
 t:y.n.e.t.size<=140737488355328
 s: (Lit.int .i64 y.n.e.s).wf=true
 d:aB .u8 w y.a y.n.d.length y.cap y.n.d
 l:y.n.d.length<=140737488355328
theorem mC.below {w w':World}{y:ft}(h:mC w y)(hb:Below w.heap.size w w') :mC w' y:=⟨h.k,h.p,h.m,h.t,h.s,h.d.below hb,h.l⟩
structure jy (w:World) (a:Option Addr) (len cap:Nat) (ys:List ft) :Prop where
 n:ys.length=len
 c:len<=cap
 m:cap<=maxLen
 r:Bg w a ys
 s:∀y∈ys,mC w y
theorem jy.below {w w':World}{a:Option Addr}{len cap:Nat}{ys:List ft}(h:jy w a len cap ys)(hb:Below w.heap.size w w') :jy w' a len cap ys:=⟨h.n,h.c,h.m,h.r.below hb,fun y hy=> (h.s y hy).below hb⟩
theorem jy.get {w:World}{a:Option Addr}{len cap:Nat}{ys:List ft}(h:jy w a len cap ys)(i:Nat)(hi:i<len) :
 ∃b off y,a=some ⟨b,off,none⟩/\b<w.heap.size/\ys[i]? =some y/\mC w y/\jH w b off ys:=by
 have hlt:i<ys.length:=by rw[h.n];exact hi
 have hg:ys[i]? =some ys[i] :=List.getElem?_eq_getElem hlt;rcases h.r with h0|⟨b,off,h1,h2,h3⟩
 ·simp[h0]at hlt
 ·exact⟨b,off,_,h1,h2,hg,h.s _ (List.getElem_mem _),h3⟩
def qz (ys:List ft) :List Mb:=ys.map ft.n
theorem lh (ys:List ft) : (qz ys).length=ys.length:=by unfold qz;rw[List.length_map]
theorem rH {ys:List ft}{i:Nat}{y:ft}(h:ys[i]? =some y) : (qz ys)[i]? =some y.n:=by unfold qz;rw[List.getElem?_map,h];rfl
section
variable {H:Type} {enc:TypeId×Value->H} {P:Program} {w:World} {base:Nat} {held:Bool}
end
end Go.Proofs.YtcjagakckffkiaaGreatDoor.Flt
namespace Go.Proofs.YtcjagakckffkiaaGreatDoor
open Go.RowKit
def Dt (u v:Value) :Prop:=∀k,u.ownBlock=some k->v.ownBlock≠some k
theorem Dt.symm {u v:Value}(h:Dt u v) :Dt v u:=fun k hv hu=>h k hu hv
theorem oQ {w:World}{base n size:Nat}{e:TypeId}{v:Value}{xs:List Value}(h:w.ownsRow base e size v n xs) :∀k,v.ownBlock=some k->base<=k/\k<w.heap.size:=by
 intro k hk;rcases h.2 with⟨h',_⟩|⟨g',cap',cur,hv,hb',hh,_⟩
 ·rw[h']at hk;cases hk
 ·rw[hv]at hk;obtain rfl:g'=k:=by simpa [Value.ownBlock]using hk
  exact⟨hb',(Array.getElem?_eq_some_iff.1 hh).1⟩
theorem cJ {w w':World}{base B n size:Nat}{e:TypeId}{v:Value}{xs:List Value}(h:w.ownsRow base e size v n xs)(hb:Below B w w')(hB:w.heap.size<=B) :w'.ownsRow base e size v n xs:=by
 obtain⟨h1,h2⟩:=h;refine⟨h1,?_⟩;rcases h2 with h2|⟨g',cap',cur,hv,hb',hh,r⟩
 ·exact Or.inl h2
 ·have hlt:g'<w.heap.size:= (Array.getElem?_eq_some_iff.1 hh).1;exact Or.inr ⟨g',cap',cur,hv,hb',by rw[hb.block g' (by omega)];exact hh,r⟩
theorem qf {P:Program}{e:TypeId}{z:Value}{s b:Nat}(h: (P.info? e).map (fun i=> (i.zero,i.size,i.bytes)) =some (some z,s,b)) :
 ∃i0,Hid (P.info? e=some i0/\i0.zero=some z/\i0.size=s/\i0.bytes=b) :=by
 cases hq:P.info? e with
 |none=>simp[hq]at h
 |some i=>simp[hq]at h;exact⟨i,rfl,h.1,h.2.1,h.2.2⟩
section
variable {P:Program} {w:World} {ops:Array Oper} {rest:List Oper} {o:Oper} {a:Act} {Q:Exit->Act->World->Prop}
end
end Go.Proofs.YtcjagakckffkiaaGreatDoor
namespace Go.Proofs.YtcjagakckffkiaaGreatDoor.Flt
open Go.RowKit
theorem jH.of_cells {w:World}{g:Nat}{e:TypeId}{ys:List ft}(h:ak w g e (bZ ys)) :jH w g 0 ys:=fun i y hi j v hv=>by
 rw[Nat.zero_add,h.cell];exact mq ys i y hi j v hv
section
variable {P:Program} {w:World} {ops:Array Oper} {rest:List Oper} {o:Oper} {a:Act} {Q:Exit->Act->World->Prop}
end
end Go.Proofs.YtcjagakckffkiaaGreatDoor.Flt
namespace Go.Proofs.YtcjagakckffkiaaGreatDoor.Flt
open Go.RowKit Go.Proofs.YtcjagakckffkiaaGreatDoor.Fit
abbrev Ja:ft:=⟨⟨⟨0,emp,0,emp,0⟩,[]⟩,none,0⟩
theorem BI (n:Nat) : (bZ (List.replicate n Ja)).toArray=madeCells (Value.agg (fD 0 emp 0 emp 0 none 0 0).toArray).cells (n*6) :=by
 apply Array.ext
 ·rw[size_madeCells,List.size_toArray,iv,List.length_replicate]
 ·intro i h1 h2;have hi:i<n*6:=by rw[size_madeCells]at h2;exact h2
  have hl:i/6<n:=by omega
  have:=mq (List.replicate n Ja) (i/6) Ja (by rw[List.getElem?_replicate,if_pos hl]) (i % 6) ((lI Ja)[i % 6]'(by simp;omega)) (List.getElem?_eq_getElem _);rw[show i/6*6+i % 6=i by omega]at this;have h3: (bZ (List.replicate n Ja)).toArray[i]? =some ((lI Ja)[i % 6]'(by simp;omega)) :=by simpa using this
  rw[Array.getElem?_eq_getElem h1]at h3;rw[Option.some.inj h3];simp only[madeCells,Array.getElem_map,Array.getElem_range];have:i % 6<6:=by omega
  rcases(show i % 6=0\/i % 6=1\/i % 6=2\/i % 6=3\/i % 6=4\/i % 6=5 by omega)with e|e|e|e|e|e<;>simp[e,Value.cells]
theorem Js (u:ft) :∀v∈lI u,v.oneCell'=true:=by simp[Value.oneCell']
theorem oY:∀(us:List ft) (i:Nat) (u:ft),i<us.length-> (bZ us).take (i*6) ++lI u++ (bZ us).drop (i*6+6) =bZ (us.set i u)
 | [],i,u,h=>by simp at h
 |y::us,0,u,_=>by
  rw[eB,List.set_cons_zero,eB];simp
 |y::us,i+1,u,h=>by
  rw[eB,List.set_cons_succ,eB,<- oY us i u (by simpa using h)];have hl: (lI y).length=6:=by simp
  rw[show(i+1) *6= (lI y).length+i*6 by rw[hl];omega,List.take_append,Nat.add_assoc,List.drop_append];have e1: (lI y).take ((lI y).length+i*6) =lI y:=List.take_of_length_le (by omega);have e2: (lI y).drop ((lI y).length+ (i*6+6)) = [] :=List.drop_eq_nil_of_le (by omega);rw[e1,e2,Nat.add_sub_cancel_left,Nat.add_sub_cancel_left];simp
section
variable {P:Program} {w:World} {ops:Array Oper} {rest:List Oper} {o:Oper} {a:Act} {Q:Exit->Act->World->Prop}
theorem pQ (hgd:o.guard=none)(l c:Operand)(t e:TypeId)(ho:o.op= .makeSlice t l c)(ht:P.underlying t=some (.slice e))(i0:TypeInfo)(hI:Hid (P.info? e=some i0/\i0.zero=some (.agg (fD 0 emp 0 emp 0 none 0 0).toArray)/\i0.size=6/\i0.bytes=80))
 (n:Nat)(hl:a.eval l= .int .i64 (n:Int))(hc:a.eval c= .int .i64 (n:Int))(hn:n<=1000000)
 (K:∀w',ak w' w.heap.size e (bZ (List.replicate n Ja))->Below w.heap.size w w'->wpList P ops Q rest (a.put o.dst (.slice (some ⟨w.heap.size,0,none⟩) n n)) w') :wpList P ops Q (o::rest) a w:=by
 refine wpList_make_full w hgd l c t ho w.heap.size e i0 _ 6 ht hI.out.1 hI.out.2.1 hI.out.2.2.1 .i64 .i64 n n n hl hc rfl rfl (by rw[hI.out.2.2.2];omega) (by unfold maxLen;omega) ah fun w' h1 h2=>?_;refine K w' ?_ (aF.grown h2 ah (fun _ h=>by cases h));obtain⟨h3,h4⟩:=h1;rcases h4 with⟨hv,_⟩|⟨g,cap,cur,hv,_,hh,_,_,hs,hx⟩
 ·cases hv
 ·injection hv with e1 _ e3;injection e1 with e1;injection e1 with e1 _;subst e1;subst e3;unfold ak;rw[BI]
  have e:cur=madeCells (Value.agg (fD 0 emp 0 emp 0 none 0 0).toArray).cells (n*6) :=by
   have h5:cur.toList.take (n*6) =cur.toList:=List.take_of_length_le (by simp[hs]);rw[h5]at hx;exact Array.ext' hx
  rw[<- e];exact hh
theorem gm (hgd:o.guard=none)(T:TypeId)(x y:Operand)(ho:o.op= .store T x y)(g q i:Nat)(hx:a.eval x= .pointer (some ⟨g,q,none⟩))(hq:q=i*6)
 (u:ft)(hy:a.eval y= .agg (lI u).toArray)(hs: (P.info? T).map (·.size) =some 6)(T':TypeId)(us:List ft)(hg:ak w g T' (bZ us))(hi:i<us.length)
 (K:∀w',ak w' g T' (bZ (us.set i u))->cX w w' g->wpList P ops Q rest (a.put o.dst undef) w') :wpList P ops Q (o::rest) a w:=by
 subst hq;refine wpList_plain hgd fun K' hK=>?_
 have hb:i*6+0+ (lI u).length<= (bZ us).toArray.size:=by
  rw[List.size_toArray,iv];simp;omega
 have hst:=run_storeCells_at (P:=P) g (i*6) T' (lI u) 0 (bZ us).toArray w hg hb (Js u)
 have e: ((bZ us).toArray.toList.take (i*6+0) ++lI u++ (bZ us).toArray.toList.drop (i*6+0+ (lI u).length)).toArray= (bZ (us.set i u)).toArray:=by
  rw[<- oY us i u hi];simp
 rw[e]at hst
 cases hq:P.info? T with
 |none=>simp[hq]at hs
 |some j=>
  have hj:j.size=6:=by simpa [hq]using hs
  have hrun: (storeVar T ⟨g,i*6,none⟩ (.agg (lI u).toArray)).run P w= .ok () (w.setRow g (bZ (us.set i u)).toArray) :=by
   have hsz: (Value.agg (lI u).toArray).cells.size=6:=rfl;simp only[storeVar,Sem.run_bind,sizeOf,typeInfo,hsz];simp[hq,hj,Value.cells];exact hst
  unfold Oper.wp execOp;simp only[ho,hx,hy,Instr.storeAt,Instr.sureAddr,Sem.run_bind,Sem.run_pure,Result.andThen_ok,hrun];have hT:dp w (w.setRow g (bZ (us.set i u)).toArray) g:=⟨_,rfl⟩;exact hK _ _ (K _ (setRow_heap w g _ _ T' _ hg) ⟨fun hB=>hT.below hB,fun hk=>hT.other hk,hT.size⟩)
end
end Go.Proofs.YtcjagakckffkiaaGreatDoor.Flt
namespace Go.Proofs.YtcjagakckffkiaaGreatDoor.Flt
open Go.RowKit Go.Proofs.YtcjagakckffkiaaGreatDoor.Fit Tre
theorem Oy:ij Tryz.prog 70 6:=⟨⟨_,Tryz.underlying70⟩,by kernel_rfl⟩
theorem Pk: (Tryz.prog.info? 70).map (·.zero) =some (some (.agg (fD 0 emp 0 emp 0 none 0 0).toArray)) :=by kernel_rfl
theorem kD (k:Int)(p:ByteArray)(m:Int)(t:ByteArray)(s:Int)(a:Option Addr)(n cap:Nat) :∀v∈fD k p m t s a n cap,v.oneCell'=true:=by simp[Value.oneCell']
theorem BF (k:Int)(p:ByteArray)(m:Int)(t:ByteArray)(a:Option Addr)(n cap:Nat)(c:Int)(q:ByteArray)(w:World) :
 Calls Tryz.prog 55 #[.agg (bq k p m t a n cap c).toArray,.string q] w fun e w'=>e= .returned (.agg (fD 3 p m q 0 none 0 0).toArray)/\Below w.heap.size w w':=by
 have MZ:=ad Pk;have MO:=ad Oy;go_enter Tryz.func55,Tryz.ntmps55;go_wp2_with (first| (refine aj rfl 77 _ rfl (bq k p m t a n cap c) rfl ?_;intro w1 g1 b1;have G1:=ad g1;have B1:=ad b1;clear g1 b1) | (refine ag rfl 70 rfl (fD 0 emp 0 emp 0 none 0 0) MZ.out ?_;intro w2 g2 b2;have G2:=ad g2;have K1:=ad (G1.out.below b2 G1.out.lt);have B2:=ad (ar B1.out b2);have c1:=K1.out.get 1 rfl;have c2:=K1.out.get 2 rfl;clear g2 b2) | (refine ae rfl 70 _ _ rfl w1.heap.size rfl (fD 3 p m q 0 none 0 0) (fD 0 emp 0 emp 0 none 0 0) rfl 70 G2.out MO.out.2 rfl (kD _ _ _ _ _ _ _ _) ?_;intro w3 g3 t3;have G3:=ad g3;have B3:=ad (B2.out.trans (t3.below B1.out.size));clear g3 t3));exact bodyPost_ret (df Tryz.results55 MO.out _ w1.heap.size rfl _ _ G3.out rfl) rfl ⟨rfl,B3.out⟩
theorem sR (k:Int)(p:ByteArray)(m:Int)(t:ByteArray)(a:Option Addr)(n cap:Nat)(c:Int)(w:World) :
 Calls Tryz.prog 56 #[.agg (bq k p m t a n cap c).toArray] w fun e w'=>e= .returned (.agg (fD k p m t n a n cap).toArray)/\Below w.heap.size w w':=by
 have MZ:=ad Pk;have MO:=ad Oy;have EZ:=ad Km;have EO:=ad Bt;go_enter Tryz.func56,Tryz.ntmps56;go_wp2_with (first| (refine aj rfl 77 _ rfl (bq k p m t a n cap c) rfl ?_;intro w1 g1 b1;have G1:=ad g1;have B1:=ad b1;clear g1 b1) | (refine ag rfl 70 rfl (fD 0 emp 0 emp 0 none 0 0) MZ.out ?_;intro w2 g2 b2;have G2:=ad g2;have N1:=ad G1.out.lt;have K1:=ad (G1.out.below b2 G1.out.lt);have B2:=ad (ar B1.out b2);have c0:=K1.out.get 0 rfl;have c1:=K1.out.get 1 rfl;have c2:=K1.out.get 2 rfl;have c3:=K1.out.get 3 rfl;have c4:=K1.out.get 4 rfl;clear g2 b2) | (refine ag rfl 68 rfl (aR 0 emp 0 emp 0) EZ.out ?_;intro w3 g3 b3;have G3:=ad g3;have N2:=ad G2.out.lt;have K2:=ad (K1.out.below b3 K1.out.lt);have G23:=ad (G2.out.below b3 G2.out.lt);have B3:=ad (ar B2.out b3);clear g3 b3 c0 c1 c2 c3 c4) | (refine ae rfl 68 _ _ rfl w2.heap.size rfl (aR k p m t n) (aR 0 emp 0 emp 0) rfl 68 G3.out EO.out.2 rfl (bt _ _ _ _ _) ?_;intro w4 g4 t4;have G4:=ad g4;have G24:=ad (G23.out.aD t4 (Nat.ne_of_lt N2.out));have K4:=ad (K2.out.aD t4 (Nat.ne_of_lt (Nat.lt_trans N1.out N2.out)));have B4:=ad (B3.out.trans (t4.below B2.out.size));have c4:=K4.out.get 4 rfl;have d0:=G4.out.get 0 rfl;have d1:=G4.out.get 1 rfl;have d2:=G4.out.get 2 rfl;have d3:=G4.out.get 3 rfl;have d4:=G4.out.get 4 rfl;clear g4 t4) | (refine ae rfl 70 _ _ rfl w1.heap.size rfl (fD k p m t n a n cap) (fD 0 emp 0 emp 0 none 0 0) rfl 70 G24.out MO.out.2 rfl (kD _ _ _ _ _ _ _ _) ?_;intro w5 g5 t5;have G5:=ad g5;have B5:=ad (B4.out.trans (t5.below B1.out.size));clear g5 t5));exact bodyPost_ret (df Tryz.results56 MO.out _ w1.heap.size rfl _ _ G5.out rfl) rfl ⟨rfl,B5.out⟩
end Go.Proofs.YtcjagakckffkiaaGreatDoor.Flt
