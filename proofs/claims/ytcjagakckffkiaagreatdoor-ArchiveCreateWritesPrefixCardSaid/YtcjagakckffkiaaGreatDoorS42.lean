import Derived.Test.YtcjagakckffkiaaGreatDoorS41
import Derived.ChangeSame
set_option maxHeartbeats 16000000
set_option maxRecDepth 100000
namespace Go.Proofs.YtcjagakckffkiaaGreatDoor
namespace Arc
open Go.Lib Go.RowKit Go.Proofs.YtcjagakckffkiaaGreatDoor.Fit Pxr Pnm Tre Flt fQ Reb
theorem Eb {B0:Nat}(HE:wE B0)(HD:tw B0)(a:Option Addr)(n cap0:Nat)(ys:List aP)(ca:Option Addr)(cl cc:Nat)(cs:List Int)(F:Int)(w:World)(V:MV B0 w)(ha:bA w a n cap0 ys)(hc:aX .i64 w ca cl cc cs)(hF: (Lit.int .i64 F).wf=true) :
 Calls Tryz.prog 5 #[.slice a n cap0,.agg #[.slice ca cl cc,.int .i64 F]] w fun e w'=>e= .returned (.bool true)/\Below w.heap.size w w':=by
 have HA:=aa ha;have HV:=aa V;have HE0:=aa HE.nil;have HDD:=aa HD;have HN:Hid (ys.length=n) :=ha.n;have HI:=aa hc.vv;have HCL:=aa hc.1;have hcm:cl<=maxLen:=Nat.le_trans hc.2.1 hc.2.2.1
 have FB:Hid (F<=9223372036854775807) :=by
  show _<=_;simp[Lit.wf,IntKind.min,IntKind.max,IntKind.signed,IntKind.bits]at hF;omega
 have I34:Hid (fV Tryz.prog 34 2) :=⟨⟨_,Tryz.underlying34⟩,by kernel_rfl⟩;clear ha V HE HD hc hF;go_enter Tryz.func5,Tryz.ntmps5;go_wp2_with (first| (refine af rfl 34 _ rfl [.slice ca cl cc,.int .i64 F] rfl ?_;intro w1 h1 b1;have H1:=aa h1;have B1:=aa b1;have c0:=h1.get 0 rfl;have c1:=h1.get 1 rfl;clear h1 b1));have V1:=aa (HV.out.go B1.out);have A1:=aa (HA.out.below B1.out);have K1:Hid (∀w',Below w1.heap.size w1 w'->an w' w.heap.size 34 [.slice ca cl cc,.int .i64 F]) :=fun w' hb=>H1.out.below hb H1.out.lt;refine(oE a n cap0 ys w1 A1.out).mono ?_;rintro e w2 ⟨R,rfl,hR,b2⟩;have C2:=aa b2;have B2:=aa (B1.out.trans (b2.mono B1.out.size));have V2:=aa (V1.out.go b2);have A2:=aa (A1.out.below b2);have c0:= (K1.out w2 b2).get 0 rfl;have c1:= (K1.out w2 b2).get 1 rfl;clear b2;rcases hR with rfl|⟨rfl,hn,hy⟩
 ·go_wp2_with fail;refine(dm w2 HE0.out HDD.out V2.out).mono ?_;rintro e w3 ⟨rfl,b3⟩;have B3:=aa (B2.out.trans (b3.mono B2.out.size));clear b3;go_wp2_with fail;go_ret;exact⟨rfl,B3.out⟩
 by_cases h300: (300:Int) <cl
 ·go_wp2_with fail;refine(dm w2 HE0.out HDD.out V2.out).mono ?_;rintro e w3 ⟨rfl,b3⟩;have B3:=aa (B2.out.trans (b3.mono B2.out.size));clear b3;go_wp2_with fail;go_ret;exact⟨rfl,B3.out⟩
 have CL:Hid (cl<=1000) :=by show _<=_;omega
 obtain⟨BD,N40,ML⟩:=Ad HN.out hn hy;have BD:=aa BD;have N40:=aa N40;clear hn hy ML;have ZB:=aa (tC (ax ys));have HC:Hid (∀w3 S m,fU w3 S m [] F cs 0->bA w3 a n cap0 ys->MV B0 w3-> (∀k,S k->B0<=k)->_) :=fun w3 S m hs h1 h2 h3=>uy a n cap0 ys w3 h1 (Nat.le_trans N40.out (by decide)) BD.out h2.f hs FB.out h3;have HR:Hid (∀w3,bA w3 a n cap0 ys->_) :=fun w3 h1=>rE a n cap0 ys w3 h1 (Nat.le_trans N40.out (by decide)) (Nat.le_trans BD.out (by decide));have CX:Hid (DH F (ax ys) =if(cA (ax ys)).2≠0 then(cA (ax ys)).2 else vh F (nN (ax ys))) :=by show _=_;rfl
 obtain⟨CR,hCR⟩:=named (DH F (ax ys));obtain⟨Z,hZ⟩:=named (nN (ax ys));obtain⟨X,hX⟩:=named (cA (ax ys)).2;rw[<- hZ.out,<- hX.out]at ZB HR;rw[<- hCR.out,<- hZ.out]at HC;rw[<- hCR.out,<- hZ.out,<- hX.out]at CX;obtain⟨ZC,hZC⟩:=named (wk F Z);rw[<- hZC.out]at HC;clear hCR hZ hX;go_wp2_with (first| (refine aA rfl 34 2 I34.out _ rfl w.heap.size rfl 34 _ (K1.out w2 C2.out) rfl ?_));refine(uE ca cl cc cs F w2 ((HI.out.below B2.out)) HCL.out CL.out).mono ?_;rintro e w3 ⟨m,rfl,k3,b3⟩;have B3:=aa (B2.out.trans (b3.mono B2.out.size));have V3:=aa (V2.out.go b3);have C3:=aa (ar C2.out b3);have HC3:=aa (HC.out w3 _ m k3 (A2.out.below b3) V3.out fun k h=>by have:=V2.out.s;omega);have L3:Hid (w.heap.size<=w2.heap.size/\w1.heap.size<=w2.heap.size/\w2.heap.size<=w3.heap.size) :=⟨B2.out.size,C2.out.size,b3.size⟩;have A3:=aa (A2.out.below b3);have V2s:=aa V2.out.s;clear k3 b3 HC c0 c1;go_wp2_with fail;refine HC3.out.mono ?_;rintro e w4 ⟨rfl,⟨S4,cs4,r4,k4,s4⟩,o4⟩;have T4:Hid (Below w2.heap.size w3 w4) :=o4.below (fun k h=>h.1) L3.out.2.2;have B4:=aa (B3.out.trans (T4.out.mono (by have:=L3.out;omega)));have C4:=aa (C3.out.trans (T4.out.mono L3.out.2.1));have V4:=aa (V3.out.below (T4.out.mono V2s.out));have A4:=aa (HA.out.below B4.out);have K4:=aa k4;clear k4 s4 o4 HC3 T4;go_wp2_with fail;refine(HR.out w4 A4.out).mono ?_;rintro e w5 ⟨b5,n5,c5,rfl,l5,lc5,_,i5,_,bb5⟩;have I5:=aa i5;have L5:=aa l5;have LC5:=aa lc5;have B5:=aa (B4.out.trans (bb5.mono B4.out.size));have C5:=aa (C4.out.trans (bb5.mono C4.out.size));have V5:=aa (V4.out.go bb5);have K5:=aa (K4.out.below bb5);clear i5 l5 lc5 bb5 HR;go_wp2_with fail;refine(Bd _ w5).mono ?_;rintro e w6 ⟨rfl,rfl⟩;have c1:= (K1.out w5 C5.out).get 1 rfl;by_cases hx:¬X=0
 ·have nx: (X !=0) =true:=by simpa using hx
  obtain rfl:CR=X:=by rw[CX.out,if_pos hx]
  have ZZ:Hid (ZC.length=0) :=by show _=_;rw[hZC.out,ZB.out hx,wY];rfl
  clear hx;go_wp2_with fail;refine(dm w5 HE0.out HDD.out V5.out).mono ?_;rintro e w7 ⟨rfl,b7⟩;have B7:=aa (B5.out.trans (b7.mono B5.out.size));have SL:=aa (jQ w7 (K5.out.below b7));rw[ZZ.out]at SL;clear b7;go_wp2_with fail;refine SL.out.mono ?_;rintro e w8 ⟨rfl,rfl⟩;go_wp2_with fail;go_ret;exact⟨rfl,B7.out⟩
 obtain rfl:X=0:=Decidable.not_not.mp hx;have CE:Hid (CR=vh F Z) :=by show _=_;rw[CX.out,if_neg hx]
 clear hx CX ZB;have n5b:n5<=c5:=LC5.out;by_cases hf:mh F Z
 ·obtain⟨k,rfl⟩:∃k:Nat,F= (k:Int) :=⟨F.toNat,by have:=hf.1;omega⟩;have h0: (0:Int)<=k:=by omega
  have h1: (k:Int) <n5:=by have:=hf.2;rw[L5.out]at this;exact this
  have h2: (k:Int)<=c5:=by omega
  obtain rfl:CR=11:=by rw[CE.out];unfold vh;rw[if_pos hf]
  have ZE:Hid (ZC=Z.take k) :=by show _=_;rw[hZC.out];unfold wk;rw[if_pos hf];rfl
  have ZL:Hid ((Z.take k).length=k) :=by show _=_;rw[List.length_take,L5.out];omega
  clear hf hZC;go_wp2_with fail;have AL:=aa (fun wq (h:MV B0 wq) =>dm wq HE0.out HDD.out h);refine wp_region_held_drew (S:=fun _=>True) (by kernel_rfl) trivial (fun hHeld=>?_);refine rd 0 (fun K hK=>?_);go_simp;refine(AL.out _ (V5.out.go au.drew)).mono ?_;rintro e w7 ⟨rfl,b7⟩;have C7:=aa (ar C5.out (ar au.drew b7));have B7:=aa (ar B5.out (ar au.drew b7));have K7:=aa ((K5.out.below au.drew).below b7);have I7:=aa ((I5.out.below au.drew).below b7);clear b7;go_wp2_with fail;refine hK.out _ _ trivial (fun hHeld=>?_);clear hK K
  (try simp only[Act.put,bw,bx,bz])
  have HS:Hid (∀wS,Below w7.heap.size w7 wS->wS.cell? ⟨w.heap.size,1,none⟩=some (.int .i64 k)/\ (convert 25 9 (.slice b5 k c5)).run Tryz.prog wS= .ok (.string (strOfNums (Z.take k))) wS) :=fun wS h=>⟨(K1.out wS (ar C7.out h)).get 1 rfl,aQ Tryz.underlying25 Tryz.underlying5 Tryz.underlying9 ((I7.out.take k).below h) k c5 ZL.out⟩;refine ay (S2:=fun wS=>Below w7.heap.size w7 wS/\wS.cell? ⟨w.heap.size,1,none⟩=some (.int .i64 k)/\ (convert 25 9 (.slice b5 k c5)).run Tryz.prog wS= .ok (.string (strOfNums (Z.take k))) wS) (fun _ _=>trivial) ?_;have hHeld: (fun wS=>Below w7.heap.size w7 wS/\wS.cell? ⟨w.heap.size,1,none⟩=some (.int .i64 k)/\ (convert 25 9 (.slice b5 k c5)).run Tryz.prog wS= .ok (.string (strOfNums (Z.take k))) wS) w7:=⟨au,HS.out w7 au⟩;refine aY 1 (h:=aY 2 (h:=aY 3 (h:=aY 4 (h:=?_))));simp only[Act.put,bw,bx,bz];refine aY 5 (h:=aY 6 (h:=aY 9 (h:=aY 10 (h:=?_))));simp only[Act.put,bw,bx,bz];refine aY 11 (h:=aY 12 (h:=aY 13 (h:=?_)));simp only[Act.put,bw,bx,bz];refine rd 7 (fun K hK=>?_);go_simp;refine(gJ w7 K7.out).mono ?_;rintro e w8 ⟨v,rfl,o8,b8⟩;obtain⟨a8,c8,rfl,i8,_,_,l8,_⟩:=bj o8;have BB8:=aa b8;have B8:=aa (B7.out.trans (b8.mono B7.out.size));have LZ:ZC.length=k:=by rw[ZE.out];exact ZL.out
  rw[LZ]
  have CV:Hid (∀wS,Below w8.heap.size w8 wS-> (convert 25 9 (.slice a8 k c8)).run Tryz.prog wS= .ok (.string (strOfNums (Z.take k))) wS) :=fun wS h=>by
   have h9:=aQ (P:=Tryz.prog) Tryz.underlying25 Tryz.underlying5 Tryz.underlying9 ((i8.bytes K7.out.bytes.1).below h) k c8 LZ;rw[ZE.out]at h9;exact h9
  clear o8 b8 i8 l8 LZ;go_wp2_with fail;refine hK.out _ _ ⟨BB8.out,HS.out w8 BB8.out⟩ (fun hHeld=>?_);clear hK K
  (try simp only[Act.put,bw,bx,bz])
  refine ay (S2:=fun wS=> (convert 25 9 (.slice a8 k c8)).run Tryz.prog wS= .ok (.string (strOfNums (Z.take k))) wS/\ (fun wS=>Below w7.heap.size w7 wS/\wS.cell? ⟨w.heap.size,1,none⟩=some (.int .i64 k)/\ (convert 25 9 (.slice b5 k c5)).run Tryz.prog wS= .ok (.string (strOfNums (Z.take k))) wS) wS) (fun _ h=>h.2) ?_;have hHeld: (fun wS=> (convert 25 9 (.slice a8 k c8)).run Tryz.prog wS= .ok (.string (strOfNums (Z.take k))) wS/\ (fun wS=>Below w7.heap.size w7 wS/\wS.cell? ⟨w.heap.size,1,none⟩=some (.int .i64 k)/\ (convert 25 9 (.slice b5 k c5)).run Tryz.prog wS= .ok (.string (strOfNums (Z.take k))) wS) wS) w8:=⟨CV.out w8 au,hHeld⟩;refine aY 8 (h:=aY 14 (h:=aY 15 (h:=aY 16 (h:=?_))));simp only[Act.put,bw,bx,bz];refine wpAnyH_done (by kernel_rfl) ?_ _;go_wp2_with fail;go_ret;exact⟨rfl,B8.out⟩
 obtain rfl:CR=0:=by rw[CE.out];unfold vh;rw[if_neg hf]
 have ZE:Hid (ZC=Z) :=by show _=_;rw[hZC.out];unfold wk;rw[if_neg hf]
 have hf':F<0\/ (n5:Int)<=F:=by
  have:¬(0<=F/\F< (Z.length:Int)) :=hf;rw[L5.out]at this;omega
 clear hf hZC CE;rcases hf' with hf0|hf1
 ·have h0:¬(0:Int)<=F:=by omega
  clear hf0;go_wp2_with fail;have AL:=aa (fun wq (h:MV B0 wq) =>dm wq HE0.out HDD.out h);refine wp_region_held_drew (S:=fun _=>True) (by kernel_rfl) trivial (fun hHeld=>?_);refine rd 0 (fun K hK=>?_);go_simp;refine(AL.out _ (V5.out.go au.drew)).mono ?_;rintro e w7 ⟨rfl,b7⟩;have B7:=aa (ar B5.out (ar au.drew b7));have K7:=aa ((K5.out.below au.drew).below b7);have I7:=aa ((I5.out.below au.drew).below b7);clear b7;go_wp2_with fail;refine hK.out _ _ trivial (fun hHeld=>?_);clear hK K
  (try simp only[Act.put,bw,bx,bz])
  have HS:Hid (∀wS,Below w7.heap.size w7 wS-> (convert 25 9 (.slice b5 n5 c5)).run Tryz.prog wS= .ok (.string (strOfNums Z)) wS) :=fun wS h=>aQ Tryz.underlying25 Tryz.underlying5 Tryz.underlying9 (I7.out.below h) n5 c5 L5.out;refine ay (S2:=fun wS=>Below w7.heap.size w7 wS/\ (convert 25 9 (.slice b5 n5 c5)).run Tryz.prog wS= .ok (.string (strOfNums Z)) wS) (fun _ _=>trivial) ?_;have hHeld: (fun wS=>Below w7.heap.size w7 wS/\ (convert 25 9 (.slice b5 n5 c5)).run Tryz.prog wS= .ok (.string (strOfNums Z)) wS) w7:=⟨au,HS.out w7 au⟩;refine aY 1 (h:=aY 2 (h:=aY 3 (h:=aY 4 (h:=?_))));simp only[Act.put,bw,bx,bz];refine aY 5 (h:=aY 6 (h:=aY 9 (h:=aY 10 (h:=?_))));simp only[Act.put,bw,bx,bz];refine rd 7 (fun K hK=>?_);go_simp;refine(gJ w7 K7.out).mono ?_;rintro e w8 ⟨v,rfl,o8,b8⟩;obtain⟨a8,c8,rfl,i8,_,_,l8,_⟩:=bj o8;have BB8:=aa b8;have B8:=aa (B7.out.trans (b8.mono B7.out.size));have LZ:ZC.length=n5:=by rw[ZE.out];exact L5.out
  rw[LZ]
  have CV:Hid (∀wS,Below w8.heap.size w8 wS-> (convert 25 9 (.slice a8 n5 c8)).run Tryz.prog wS= .ok (.string (strOfNums Z)) wS) :=fun wS h=>by
   have h9:=aQ (P:=Tryz.prog) Tryz.underlying25 Tryz.underlying5 Tryz.underlying9 ((i8.bytes K7.out.bytes.1).below h) n5 c8 LZ;rw[ZE.out]at h9;exact h9
  clear o8 b8 i8 l8 LZ;go_wp2_with fail;refine hK.out _ _ ⟨BB8.out,HS.out w8 BB8.out⟩ (fun hHeld=>?_);clear hK K
  (try simp only[Act.put,bw,bx,bz])
  refine ay (S2:=fun wS=> (convert 25 9 (.slice a8 n5 c8)).run Tryz.prog wS= .ok (.string (strOfNums Z)) wS/\ (fun wS=>Below w7.heap.size w7 wS/\ (convert 25 9 (.slice b5 n5 c5)).run Tryz.prog wS= .ok (.string (strOfNums Z)) wS) wS) (fun _ h=>h.2) ?_;have hHeld: (fun wS=> (convert 25 9 (.slice a8 n5 c8)).run Tryz.prog wS= .ok (.string (strOfNums Z)) wS/\ (fun wS=>Below w7.heap.size w7 wS/\ (convert 25 9 (.slice b5 n5 c5)).run Tryz.prog wS= .ok (.string (strOfNums Z)) wS) wS) w8:=⟨CV.out w8 au,hHeld⟩;refine aY 8 (h:=aY 11 (h:=aY 12 (h:=aY 13 (h:=?_))));simp only[Act.put,bw,bx,bz];refine wpAnyH_done (by kernel_rfl) ?_ _;go_wp2_with fail;go_ret;exact⟨rfl,B8.out⟩
 ·have h0: (0:Int)<=F:=by omega
  have h1:¬F< (n5:Int) :=by omega
  clear hf1;go_wp2_with fail;have AL:=aa (fun wq (h:MV B0 wq) =>dm wq HE0.out HDD.out h);refine wp_region_held_drew (S:=fun _=>True) (by kernel_rfl) trivial (fun hHeld=>?_);refine rd 0 (fun K hK=>?_);go_simp;refine(AL.out _ (V5.out.go au.drew)).mono ?_;rintro e w7 ⟨rfl,b7⟩;have B7:=aa (ar B5.out (ar au.drew b7));have K7:=aa ((K5.out.below au.drew).below b7);have I7:=aa ((I5.out.below au.drew).below b7);clear b7;go_wp2_with fail;refine hK.out _ _ trivial (fun hHeld=>?_);clear hK K
  (try simp only[Act.put,bw,bx,bz])
  have HS:Hid (∀wS,Below w7.heap.size w7 wS-> (convert 25 9 (.slice b5 n5 c5)).run Tryz.prog wS= .ok (.string (strOfNums Z)) wS) :=fun wS h=>aQ Tryz.underlying25 Tryz.underlying5 Tryz.underlying9 (I7.out.below h) n5 c5 L5.out;refine ay (S2:=fun wS=>Below w7.heap.size w7 wS/\ (convert 25 9 (.slice b5 n5 c5)).run Tryz.prog wS= .ok (.string (strOfNums Z)) wS) (fun _ _=>trivial) ?_;have hHeld: (fun wS=>Below w7.heap.size w7 wS/\ (convert 25 9 (.slice b5 n5 c5)).run Tryz.prog wS= .ok (.string (strOfNums Z)) wS) w7:=⟨au,HS.out w7 au⟩;refine aY 1 (h:=aY 2 (h:=aY 3 (h:=aY 4 (h:=?_))));simp only[Act.put,bw,bx,bz];refine aY 5 (h:=aY 6 (h:=aY 9 (h:=aY 10 (h:=?_))));simp only[Act.put,bw,bx,bz];refine rd 7 (fun K hK=>?_);go_simp;refine(gJ w7 K7.out).mono ?_;rintro e w8 ⟨v,rfl,o8,b8⟩;obtain⟨a8,c8,rfl,i8,_,_,l8,_⟩:=bj o8;have BB8:=aa b8;have B8:=aa (B7.out.trans (b8.mono B7.out.size));have LZ:ZC.length=n5:=by rw[ZE.out];exact L5.out
  rw[LZ]
  have CV:Hid (∀wS,Below w8.heap.size w8 wS-> (convert 25 9 (.slice a8 n5 c8)).run Tryz.prog wS= .ok (.string (strOfNums Z)) wS) :=fun wS h=>by
   have h9:=aQ (P:=Tryz.prog) Tryz.underlying25 Tryz.underlying5 Tryz.underlying9 ((i8.bytes K7.out.bytes.1).below h) n5 c8 LZ;rw[ZE.out]at h9;exact h9
  clear o8 b8 i8 l8 LZ;go_wp2_with fail;refine hK.out _ _ ⟨BB8.out,HS.out w8 BB8.out⟩ (fun hHeld=>?_);clear hK K
  (try simp only[Act.put,bw,bx,bz])
  refine ay (S2:=fun wS=> (convert 25 9 (.slice a8 n5 c8)).run Tryz.prog wS= .ok (.string (strOfNums Z)) wS/\ (fun wS=>Below w7.heap.size w7 wS/\ (convert 25 9 (.slice b5 n5 c5)).run Tryz.prog wS= .ok (.string (strOfNums Z)) wS) wS) (fun _ h=>h.2) ?_;have hHeld: (fun wS=> (convert 25 9 (.slice a8 n5 c8)).run Tryz.prog wS= .ok (.string (strOfNums Z)) wS/\ (fun wS=>Below w7.heap.size w7 wS/\ (convert 25 9 (.slice b5 n5 c5)).run Tryz.prog wS= .ok (.string (strOfNums Z)) wS) wS) w8:=⟨CV.out w8 au,hHeld⟩;refine aY 8 (h:=aY 11 (h:=aY 12 (h:=aY 13 (h:=?_))));simp only[Act.put,bw,bx,bz];refine wpAnyH_done (by kernel_rfl) ?_ _;go_wp2_with fail;go_ret;exact⟨rfl,B8.out⟩
end Arc
section
open Go.RowKit Go.ChangeShapes
theorem mW {H:Type}{enc:TypeId×Value->H}{P:Program}{w:World}{base:Nat}{held:Bool}{t e:TypeId}{f0 f1:Field}{k k':IntKind}{cs:Array Value}{d:DataW H}{p:List MemPlace}
 (ht:P.underlying t=some (.struct #[f0,f1]))(h0:P.underlying f0.type=some (.slice e))(he:P.underlying e=some (.int k))(h1:P.underlying f1.type=some (.int k'))
 (hs: (P.cellsOf t,f0.offset,P.cellsOf f0.type,f1.offset,P.cellsOf f1.type,P.cellsOf e) = (2,0,1,1,1,1))(h:DataW.Trod enc P w base (fun _=>true) held t (.agg cs) d p) :
 ∃(a:Option Addr) (len cap:Nat) (zs:List Int) (F:Int),cs= #[.slice a len cap,.int k' F]/\aX k w a len cap zs/\ (Lit.int k' F).wf=true:=by
 simp only[Prod.mk.injEq]at hs;obtain⟨s1,s2,s3,s4,s5,s6⟩:=hs;obtain⟨fuel,hf⟩:=h;obtain⟨y0,y1,m,_,hl,hy0,hy1⟩:=trod_struct2 ht hf;simp only[Value.cells]at hl hy0 hy1;rw[s1]at hl;obtain⟨l⟩:=cs
 match l,hl with
 | [c0,c1],_=>
 rw[s2,s3]at hy0;rw[s4,s5]at hy1;simp at hy0 hy1;obtain⟨F,e1,_,wF⟩:=DataW.trod_int h1 hy1;simp at e1;subst e1;rcases open_ints h0 he s6 hy0 with⟨hcs,_⟩|⟨x,len,cap,zs,hcs,_,hl,hm,hz,_,hcell,hwz⟩
 ·simp at hcs;subst hcs;exact⟨none,0,0,[],F,rfl,aX.nil,wF⟩
 ·simp at hcs;subst hcs;exact⟨some x,len,cap,_,F,rfl,aX.mk' hl hm (by simpa using hz) hcell hwz,wF⟩
end
section
open Go.Lib Go.RowKit Go.Proofs.YtcjagakckffkiaaGreatDoor.Fit Pxr Pnm Tre Flt fQ Reb Arc
theorem eF (a:Option Addr)(n cap:Nat)(ys:List aP)(ca:Option Addr)(cl cc:Nat)(cs:List Int)(F:Int)(w:World)(V:ot w)(ha:bA w a n cap ys)(hc:aX .i64 w ca cl cc cs)(hF: (Lit.int .i64 F).wf=true) :
 Calls Tryz.prog 5 #[.slice a n cap,.agg #[.slice ca cl cc,.int .i64 F]] w fun e w'=>e= .returned (.bool true)/\Below w.heap.size w w':=
 Eb mc lY a n cap ys ca cl cc cs F w (MV.of V) ha hc hF
end
end Go.Proofs.YtcjagakckffkiaaGreatDoor
