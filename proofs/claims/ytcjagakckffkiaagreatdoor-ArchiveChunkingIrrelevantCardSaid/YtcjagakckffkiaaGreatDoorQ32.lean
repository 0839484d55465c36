import Derived.Test.YtcjagakckffkiaaGreatDoorQ31
import Derived.Test.YtcjagakckffkiaaGreatDoorQ30
import Derived.Test.YtcjagakckffkiaaGreatDoorQ1
set_option maxHeartbeats 16000000
namespace Go.Proofs.YtcjagakckffkiaaGreatDoor.Reb
open Go.RowKit Go.MapKept Go.Proofs.YtcjagakckffkiaaGreatDoor.Fit Pnm Tre Flt
def pJ (w:World)(S:Nat->Prop)(g:Nat)(A:List Mb)(y:Mb)(e:Ending)(w':World) :Prop:=
 ∃X,e= .returned (.int .i64 X)/\X=As A y/\aA S w w'/\my w' (Grow S w w') g (if X=0 then A++ [y]else A)
theorem my.mono {w:World}{S T:Nat->Prop}{g:Nat}{A:List Mb}(h:my w S g A)(hST:∀k,S k->T k)(hT:∀k,T k->k<w.heap.size) :my w T g A:=by
 obtain⟨a,cap,gd,gf,n1,n2,Fd,Ff,us,h1,h2,h3⟩:=h;exact⟨a,cap,gd,gf,n1,n2,Fd,Ff,us,h1,h2.mono hST,hT⟩
theorem my.grow {w w':World}{S:Nat->Prop}{g:Nat}{A:List Mb}(h:my w S g A)(hb:Below w.heap.size w w') :my w' (Grow S w w') g A:=
 (h.below hb).mono (fun _ hk=> .inl hk) fun k hk=>hk.elim (fun h1=>Nat.lt_of_lt_of_le (h.lt k h1) hb.size) fun h1=>h1.2
theorem Pc (y:ft)(w:World) :Calls Tryz.prog 125 #[.pointer none,.agg (lI y).toArray] w fun e w'=>e= .returned (.int .i64 1)/\Below w.heap.size w w':=by
 obtain⟨⟨⟨k,p,m,t,s⟩,d⟩,x,xc⟩:=y;obtain⟨L,hL⟩:=named d.length;have EO:=ad Bt;show Calls _ _ #[_,.agg (fD k p m t s x d.length xc).toArray] _ _;rw[<- hL.out];go_enter Tryz.func125,Tryz.ntmps125;go_wp2_with (first| (refine aj rfl 70 _ rfl (fD k p m t s x L xc) rfl ?_;intro w1 g1 b1;have G1:=ad g1;have B1:=ad b1;clear g1 b1) | (refine cz rfl 68 5 EO.out _ rfl w.heap.size 0 rfl (aR k p m t s) rfl (fun j u hj=>by rw[Nat.zero_add,G1.out.cell];match j,hj with|0,hj=>exact hj|1,hj=>exact hj|2,hj=>exact hj|3,hj=>exact hj|4,hj=>exact hj) ?_));refine(By k p m t s w1).mono ?_;rintro e w2 ⟨rfl,b2⟩;have B2:=ad (ar B1.out b2);clear b2;go_wp2_with fail;go_ret;exact⟨rfl,B2.out⟩
set_option maxRecDepth 100000 in
theorem tI {w:World}{S:Nat->Prop}{g:Nat}{A:List Mb}(hb:my w S g A)(V:dF w)(y:ft)(hy:mC w y)(hys:y.n.d= []\/∀x,y.a=some x->¬S x.block)(hA:A.length<=1000) :
 Calls Tryz.prog 125 #[.pointer (some ⟨g,0,none⟩),.agg (lI y).toArray] w (pJ w S g A y.n) :=by
 obtain⟨⟨⟨k,p,m,t,s⟩,d⟩,x,xc⟩:=y;obtain⟨L,hL⟩:=named d.length;have HL:Hid (d.length=L) :=hL.out.symm;have HBD:=ad hb;obtain⟨a,cap,gd,gf,nd1,nf1,Fd,Ff,us,h1,h2,h3⟩:=hb;obtain⟨n,hn⟩:=named A.length;obtain⟨X,hX⟩:=named (iu A ⟨k,p,m,t,s⟩);have HB:=ad h1;have HI:=ad h2;have HL3:=ad h3;have HY:=ad hy;have HYS:=ad hys;have HN:Hid (A.length=n) :=hn.out.symm;have N40:Hid (n<=1000) :=by show _<=_;rw[hn.out];exact hA
 have EO:=ad Bt;have IN:Hid ((Tryz.prog.info? 77).map (fun i=> (i.zero,i.size)) =some (some (.agg (bq 0 emp 0 emp none 0 0 0).toArray),6)) :=by show _=_;kernel_rfl
 obtain⟨i0,HI0⟩:=qf (P:=Tryz.prog) (e:=77) (z:= .agg (bq 0 emp 0 emp none 0 0 0).toArray) (s:=6) (b:=80) (by kernel_rfl);have S22:Hid ((Tryz.prog.info? 22).map (·.size) =some 1) :=by show _=_;kernel_rfl
 have LG:Hid (∀w',w'.cell? ⟨g,0,none⟩=some (.slice a n cap)-> (loadVar 22 ⟨g,0,none⟩).run Tryz.prog w'= .ok (.slice a n cap) w') :=fun w' hc=>by go_simp
 have CC:Hid (∀w',Below w.heap.size w w'->Calls Tryz.prog 124 #[.pointer (some ⟨g,0,none⟩),.agg (aR k p m t s).toArray] w' fun e w''=>e= .returned (.int .i64 X)/\Below w'.heap.size w' w'') :=fun w' h=>by
  rw[hX.out];exact tQ (h1.below h) (V.go h) k p m t s (Nat.le_trans hy.p (by unfold maxLen;omega)) (Nat.le_trans hy.t (by unfold maxLen;omega))
 have GW:Hid (g≠w.heap.size) :=Nat.ne_of_lt (h3 _ h2.g);have GDW:Hid (gd≠w.heap.size) :=Nat.ne_of_lt (h3 _ h2.d);have GFW:Hid (gf≠w.heap.size) :=Nat.ne_of_lt (h3 _ h2.f);show Calls _ _ #[_,.agg (fD k p m t s x d.length xc).toArray] _ _;rw[HL.out];clear h1 h2 h3 hy hys hA hL V hn;go_enter Tryz.func125,Tryz.ntmps125;go_wp2_with (first| (refine aj rfl 70 _ rfl (fD k p m t s x L xc) rfl ?_;intro w1 g1 b1;have G1:=ad g1;have B1:=ad b1;clear g1 b1) | (refine cz rfl 68 5 EO.out _ rfl w.heap.size 0 rfl (aR k p m t s) rfl (fun j u hj=>by rw[Nat.zero_add,G1.out.cell];match j,hj with|0,hj=>exact hj|1,hj=>exact hj|2,hj=>exact hj|3,hj=>exact hj|4,hj=>exact hj) ?_));refine(CC.out w1 B1.out).mono ?_;rintro e wz ⟨rfl,b2⟩;have G2:=ad (G1.out.below b2 G1.out.lt);have B2:=ad (ar B1.out b2);clear b2 G1 B1 CC;by_cases x0:¬X=0
 ·have nx: (X !=0) =true:=by simpa using x0
  have RES:Hid (pJ w S g A ⟨⟨k,p,m,t,s⟩,d⟩ (.returned (.int .i64 X)) wz) :=⟨X,rfl,by rw[Oe (by rw[<- hX.out];exact x0),hX.out],aA.aq B2.out ah,by rw[if_neg x0];exact HBD.out.grow B2.out⟩;go_wp2_with fail;go_ret;exact RES.out
 obtain rfl:X=0:=Decidable.not_not.mp x0;clear x0;have c0:=G2.out.get 0 rfl;have c4:=G2.out.get 4 rfl;have c5:=G2.out.get 5 rfl;by_cases hs:¬(L:Int) =s
 ·have ns: ((L:Int) !=s) =true:=by simpa using hs
  have RES:Hid (pJ w S g A ⟨⟨k,p,m,t,s⟩,d⟩ (.returned (.int .i64 2)) wz) :=⟨2,rfl,(OQ hX.out.symm (by show¬(d.length:Int) =s;rw[HL.out];exact hs)).symm,aA.aq B2.out ah,by rw[if_neg (by decide)];exact HBD.out.grow B2.out⟩;go_wp2_with fail;go_ret;exact RES.out
 obtain rfl: (L:Int) =s:=Decidable.not_not.mp hs;have ns: ((L:Int) != (L:Int)) =false:=by simp
 clear hs;have ADR:Hid (0=As A ⟨⟨k,p,m,t,(L:Int)⟩,d⟩) := (MA hX.out.symm (by show(d.length:Int) =L;rw[HL.out])).symm;have CHR:Hid (iu A ⟨k,p,m,t,(L:Int)⟩=0) :=hX.out.symm;clear hX HBD;have PM0:Hid (PM wz g a cap gd gf nd1 nf1 Fd Ff us A) := (HB.out.below B2.out).eh;have D0:Hid (Below wz.heap.size wz wz.drew) :=aF.drew;have g0:wz.cell? ⟨g,0,none⟩=some (.slice a n cap) :=by rw[<- HN.out];exact PM0.out.o.get 0 rfl
 by_cases k0:k=0
 ·subst k0;have FD:Hid (Fm (rW Fd (.string p) (.bool true)) (A++ [⟨⟨0,p,m,t,(L:Int)⟩,d⟩]) 0 (fun _=> .bool true)) :=HB.out.fd.set (x:=⟨⟨0,p,m,t,(L:Int)⟩,d⟩) rfl;have FF:Hid (Fm Ff (A++ [⟨⟨0,p,m,t,(L:Int)⟩,d⟩]) 1 (fun r=> .int .i64 (r:Int))) :=HB.out.ff.stay (x:=⟨⟨0,p,m,t,(L:Int)⟩,d⟩) (by show¬(0:Int) =1;decide);go_wp2_with fail;refine wp_region_held_drew (S:= (fun w':World=>w'.cell? ⟨g,1,none⟩=some (.map (some gd))/\w'.cell? ⟨w.heap.size,1,none⟩=some (.string p))) (by kernel_rfl) (⟨(PM0.out.below D0.out).o.get 1 rfl,(G2.out.below D0.out G2.out.lt).get 1 rfl⟩) (fun hHeld=>?_);refine aJ 0 (h:=aJ 1 (h:=aJ 2 (h:=aJ 3 (h:=?_))));simp only[Act.put,bB,bC,bD];refine aJ 4 (h:=aJ 5 (h:=aJ 6 (h:=?_)));simp only[Act.put,bB,bC,bD];refine rd 7 fun K hK=>?_;refine jK rfl 150 _ _ _ rfl 9 4 Tryz.underlying150 .string Tryz.underlying9 gd rfl (.string p) rfl (show IsKey .string (.string p)from trivial) (.bool true) rfl nd1 Fd (PM0.out.below D0.out).md ?_;intro wm m8 t8;have PMm:=ad ((PM0.out.below D0.out).dir m8 t8);have MBm:=ad (((G2.out.below D0.out G2.out.lt)).aK t8 (Ne.symm GDW.out));have ONm:Hid (aA S w wm) := (aA.aq (B2.out.trans (D0.out.mono B2.out.size)) ah).trans (cX.only t8 HI.out.d);clear m8 t8;refine hK.out _ _ (⟨PMm.out.o.get 1 rfl,MBm.out.get 1 rfl⟩) (fun hHeld=>?_);clear hK K
  (try simp only[Act.put])
  refine wpAnyH_done (by kernel_rfl) ?_ _;clear hHeld c0 c4 c5 g0
  have NC:Hid (∀w',Below wm.heap.size wm w'->Calls Tryz.prog 183 #[.pointer (some ⟨g,0,none⟩),.agg (fD 0 p m t (L:Int) x L xc).toArray] w' fun e w''=>∃u,e= .returned (.agg (fy u).toArray)/\Nw S w' w'' A ⟨⟨0,p,m,t,(L:Int)⟩,d⟩ u/\Below w'.heap.size w' w'') :=fun w' h=>by
   have:=qR (S:=S) (PMm.out.below h).o ⟨⟨⟨0,p,m,t,(L:Int)⟩,d⟩,x,xc⟩ (mC.Gj HY.out (ONm.out.trans (aA.aq h ah)) HYS.out) (by rw[HN.out];exact N40.out) (by show¬(0:Int) =3;decide);dsimp only[lI]at this;rw[HL.out]at this;exact this
  go_wp2_with fail;have E0:Hid (Below wm.heap.size wm wm.drew) :=aF.drew;have GO:Hid (∀w',Below wm.heap.size wm w'->w'.cell? ⟨g,0,none⟩=some (.slice a n cap)) :=fun w' h=>by rw[<- HN.out];exact(PMm.out.below h).o.get 0 rfl
  have KO:Hid (∀w',ak w' w.heap.size 70 (fD 0 p m t (L:Int) x L xc)-> (fun w':World=>w'.cell? ⟨w.heap.size,0,none⟩=some (.int .i64 0)/\w'.cell? ⟨w.heap.size,1,none⟩=some (.string p)/\w'.cell? ⟨w.heap.size,2,none⟩=some (.int .i64 m)/\w'.cell? ⟨w.heap.size,3,none⟩=some (.string t)/\w'.cell? ⟨w.heap.size,4,none⟩=some (.int .i64 (L:Int))/\w'.cell? ⟨w.heap.size,5,none⟩=some (.slice x L xc)) w') :=fun w' h=>⟨h.get 0 rfl,h.get 1 rfl,h.get 2 rfl,h.get 3 rfl,h.get 4 rfl,h.get 5 rfl⟩;have KB:Hid (∀w',aA S wm w'->ak w' w.heap.size 70 (fD 0 p m t (L:Int) x L xc)) :=fun w' h=>MBm.out.only h fun hs=>Nat.lt_irrefl _ (HL3.out _ hs);have KS:Hid (∀w',aA S wm w'-> (fun w':World=>w'.cell? ⟨w.heap.size,0,none⟩=some (.int .i64 0)/\w'.cell? ⟨w.heap.size,1,none⟩=some (.string p)/\w'.cell? ⟨w.heap.size,2,none⟩=some (.int .i64 m)/\w'.cell? ⟨w.heap.size,3,none⟩=some (.string t)/\w'.cell? ⟨w.heap.size,4,none⟩=some (.int .i64 (L:Int))/\w'.cell? ⟨w.heap.size,5,none⟩=some (.slice x L xc)) w') :=fun w' h=>KO.out _ (KB.out _ h);refine wp_region_held_drew (S:= (fun w':World=>w'.cell? ⟨w.heap.size,0,none⟩=some (.int .i64 0)/\w'.cell? ⟨w.heap.size,1,none⟩=some (.string p)/\w'.cell? ⟨w.heap.size,2,none⟩=some (.int .i64 m)/\w'.cell? ⟨w.heap.size,3,none⟩=some (.string t)/\w'.cell? ⟨w.heap.size,4,none⟩=some (.int .i64 (L:Int))/\w'.cell? ⟨w.heap.size,5,none⟩=some (.slice x L xc))) (by kernel_rfl) (KS.out _ (aA.aq E0.out ah)) (fun hHeld=>?_);refine aJ 0 (h:=aJ 1 (h:=aJ 2 (h:=aJ 3 (h:=?_))));simp only[Act.put,bB,bC,bD];refine aJ 5 (h:=aJ 6 (h:=?_));simp only[Act.put,bB,bC,bD];refine Lv (rc 4 (fun K hK=>?_) (rc 7 (fun K hK=>?_) .nil))
  ·refine cD rfl 22 (.tmp 49) rfl ⟨g,0,none⟩ rfl (.slice a n cap) (LG.out _ (GO.out _ E0.out)) ?_;refine hK.out _ _ (KS.out _ (aA.aq E0.out ah)) (fun hHeld=>?_);clear hK K
   (try simp only[Act.put,bB,bC,bD])
   refine rd 7 fun K hK=>?_;go_simp;refine(NC.out _ E0.out).mono ?_;rintro e z1 ⟨u,rfl,hu,b1⟩;have NW:Hid (Nw S wm z1 A ⟨⟨0,p,m,t,(L:Int)⟩,d⟩ u) :=⟨hu.n,hu.s,hu.f,hu.i⟩;have E1:Hid (Below wm.heap.size wm z1) :=E0.out.trans (b1.mono ah);clear hu b1;refine hK.out _ _ (KS.out _ (aA.aq E1.out ah)) (fun hHeld=>?_);clear hK K
   (try simp only[Act.put,bB,bC,bD])
   refine rd 8 fun K hK=>?_;refine cH rfl 22 77 (.tmp 53) rfl Tryz.underlying22 _ IN.out u rfl ?_;intro z2 g2 b2;have L2:Hid (ak z2 z1.heap.size 77 (ax [u])) :=g2;have BB2:Hid (Below z1.heap.size z1 z2) :=b2;have E2:Hid (Below wm.heap.size wm z2) :=E1.out.trans (b2.mono E1.out.size)
   have RW2:Hid (z2.ownsRow 0 77 6 (.slice a n cap) n (ax us)) :=by
    show World.ownsRow _ _ _ _ _ _ _;rw[<- HN.out];exact(PMm.out.below E2.out).r
   clear g2 b2;refine hK.out _ _ (KS.out _ (aA.aq E2.out ah)) (fun hHeld=>?_);clear hK K
   (try simp only[Act.put,bB,bC,bD])
   refine rd 9 fun K hK=>?_;refine bT rfl (.tmp 50) (.tmp 54) 22 rfl 0 77 i0 _ Tryz.underlying22 HI0 rfl (.slice a n cap) n us rfl RW2.out (some ⟨z1.heap.size,0,none⟩) 1 1 [u] rfl (.inr ⟨_,0,rfl,L2.out.lt,.of_cells L2.out⟩) rfl (by have:=N40.out;omega) (Nat.zero_le _) ?_;intro v3 z3 o3 b3 k3 x3;have X3:Hid (v3.ownBlock= (Value.slice a n cap).ownBlock\/v3.ownBlock=some z2.heap.size) :=x3
   obtain⟨va,vc,rfl,O3⟩:∃va vc,v3= .slice va (n+1) vc/\Hid (z3.ownsRow 0 77 6 v3 (n+1) (ax (us++ [u]))) :=by
    obtain⟨va,vc,hv,_⟩:=bY.bJ o3;exact⟨va,vc,hv,o3⟩
   have B3:=ad b3;have KK3:=ad k3;have ON3:Hid (aA S wm z3) := (aA.aq E2.out ah).trans ⟨b3.os,b3.tape,b3.output,b3.size,fun k h1 h2=>k3 k h1 fun e=>h2 (eC RW2.out HI.out.r k e.symm)⟩
   have GB3:Hid (ak z3 g 153 [.slice a n cap,.map (some gd),.map (some gf)]) :=by
    have h:= (PMm.out.below E2.out).o;rw[HN.out]at h;exact(k3 g h.lt (cS RW2.out h (by decide))).trans h
   clear o3 b3 k3;refine hK.out _ _ (KS.out _ ON3.out) (fun hHeld=>?_);clear hK K
   (try simp only[Act.put,bB,bC,bD])
   refine aJ 10 (h:=aJ 11 (h:=?_));simp only[Act.put,bB,bC,bD];refine rd 12 fun K hK=>?_;refine cg rfl 22 (.tmp 57) (.tmp 55) rfl g 0 rfl (.slice va (n+1) vc) rfl rfl S22.out 153 [.slice a n cap,.map (some gd),.map (some gf)] GB3.out (by show 0<3;decide) ?_;intro z4 o4 t4
   have RES:Hid (pJ w S g A ⟨⟨0,p,m,t,(L:Int)⟩,d⟩ (.returned (.int .i64 0)) z4) :=by
    obtain⟨q1,q2⟩:=PMm.out.fin HI.out ONm.out HL3.out ADR.out.symm FD.out FF.out NW.out E1.out BB2.out (by rw[HN.out];exact O3.out) B3.out (by rw[HN.out];exact KK3.out) (by rw[HN.out];exact X3.out) (by rw[HN.out];exact o4) t4;exact⟨0,rfl,ADR.out,q1,by rw[if_pos rfl];exact q2⟩
   have ks4: (fun w':World=>w'.cell? ⟨w.heap.size,0,none⟩=some (.int .i64 0)/\w'.cell? ⟨w.heap.size,1,none⟩=some (.string p)/\w'.cell? ⟨w.heap.size,2,none⟩=some (.int .i64 m)/\w'.cell? ⟨w.heap.size,3,none⟩=some (.string t)/\w'.cell? ⟨w.heap.size,4,none⟩=some (.int .i64 (L:Int))/\w'.cell? ⟨w.heap.size,5,none⟩=some (.slice x L xc)) z4:=KO.out _ ((KB.out _ ON3.out).aK t4 (Ne.symm GW.out));clear o4 t4;refine hK.out _ _ (ks4) (fun hHeld=>?_);clear hK K
   (try simp only[Act.put])
   refine wpAnyH_done (by kernel_rfl) ?_ _;go_wp2_with fail;go_ret;exact RES.out
  ·go_simp;refine(NC.out _ E0.out).mono ?_;rintro e z1 ⟨u,rfl,hu,b1⟩;have NW:Hid (Nw S wm z1 A ⟨⟨0,p,m,t,(L:Int)⟩,d⟩ u) :=⟨hu.n,hu.s,hu.f,hu.i⟩;have E1:Hid (Below wm.heap.size wm z1) :=E0.out.trans (b1.mono ah);clear hu b1;refine hK.out _ _ (KS.out _ (aA.aq E1.out ah)) (fun hHeld=>?_);clear hK K
   (try simp only[Act.put,bB,bC,bD])
   refine Lv (rc 4 (fun K hK=>?_) (rc 8 (fun K hK=>?_) .nil))
   ·refine cD rfl 22 (.tmp 49) rfl ⟨g,0,none⟩ rfl (.slice a n cap) (LG.out _ (GO.out _ E1.out)) ?_;refine hK.out _ _ (KS.out _ (aA.aq E1.out ah)) (fun hHeld=>?_);clear hK K
    (try simp only[Act.put,bB,bC,bD])
    refine rd 8 fun K hK=>?_;refine cH rfl 22 77 (.tmp 53) rfl Tryz.underlying22 _ IN.out u rfl ?_;intro z2 g2 b2;have L2:Hid (ak z2 z1.heap.size 77 (ax [u])) :=g2;have BB2:Hid (Below z1.heap.size z1 z2) :=b2;have E2:Hid (Below wm.heap.size wm z2) :=E1.out.trans (b2.mono E1.out.size)
    have RW2:Hid (z2.ownsRow 0 77 6 (.slice a n cap) n (ax us)) :=by
     show World.ownsRow _ _ _ _ _ _ _;rw[<- HN.out];exact(PMm.out.below E2.out).r
    clear g2 b2;refine hK.out _ _ (KS.out _ (aA.aq E2.out ah)) (fun hHeld=>?_);clear hK K
    (try simp only[Act.put,bB,bC,bD])
    refine rd 9 fun K hK=>?_;refine bT rfl (.tmp 50) (.tmp 54) 22 rfl 0 77 i0 _ Tryz.underlying22 HI0 rfl (.slice a n cap) n us rfl RW2.out (some ⟨z1.heap.size,0,none⟩) 1 1 [u] rfl (.inr ⟨_,0,rfl,L2.out.lt,.of_cells L2.out⟩) rfl (by have:=N40.out;omega) (Nat.zero_le _) ?_;intro v3 z3 o3 b3 k3 x3;have X3:Hid (v3.ownBlock= (Value.slice a n cap).ownBlock\/v3.ownBlock=some z2.heap.size) :=x3
    obtain⟨va,vc,rfl,O3⟩:∃va vc,v3= .slice va (n+1) vc/\Hid (z3.ownsRow 0 77 6 v3 (n+1) (ax (us++ [u]))) :=by
     obtain⟨va,vc,hv,_⟩:=bY.bJ o3;exact⟨va,vc,hv,o3⟩
    have B3:=ad b3;have KK3:=ad k3;have ON3:Hid (aA S wm z3) := (aA.aq E2.out ah).trans ⟨b3.os,b3.tape,b3.output,b3.size,fun k h1 h2=>k3 k h1 fun e=>h2 (eC RW2.out HI.out.r k e.symm)⟩
    have GB3:Hid (ak z3 g 153 [.slice a n cap,.map (some gd),.map (some gf)]) :=by
     have h:= (PMm.out.below E2.out).o;rw[HN.out]at h;exact(k3 g h.lt (cS RW2.out h (by decide))).trans h
    clear o3 b3 k3;refine hK.out _ _ (KS.out _ ON3.out) (fun hHeld=>?_);clear hK K
    (try simp only[Act.put,bB,bC,bD])
    refine aJ 10 (h:=aJ 11 (h:=?_));simp only[Act.put,bB,bC,bD];refine rd 12 fun K hK=>?_;refine cg rfl 22 (.tmp 57) (.tmp 55) rfl g 0 rfl (.slice va (n+1) vc) rfl rfl S22.out 153 [.slice a n cap,.map (some gd),.map (some gf)] GB3.out (by show 0<3;decide) ?_;intro z4 o4 t4
    have RES:Hid (pJ w S g A ⟨⟨0,p,m,t,(L:Int)⟩,d⟩ (.returned (.int .i64 0)) z4) :=by
     obtain⟨q1,q2⟩:=PMm.out.fin HI.out ONm.out HL3.out ADR.out.symm FD.out FF.out NW.out E1.out BB2.out (by rw[HN.out];exact O3.out) B3.out (by rw[HN.out];exact KK3.out) (by rw[HN.out];exact X3.out) (by rw[HN.out];exact o4) t4;exact⟨0,rfl,ADR.out,q1,by rw[if_pos rfl];exact q2⟩
    have ks4: (fun w':World=>w'.cell? ⟨w.heap.size,0,none⟩=some (.int .i64 0)/\w'.cell? ⟨w.heap.size,1,none⟩=some (.string p)/\w'.cell? ⟨w.heap.size,2,none⟩=some (.int .i64 m)/\w'.cell? ⟨w.heap.size,3,none⟩=some (.string t)/\w'.cell? ⟨w.heap.size,4,none⟩=some (.int .i64 (L:Int))/\w'.cell? ⟨w.heap.size,5,none⟩=some (.slice x L xc)) z4:=KO.out _ ((KB.out _ ON3.out).aK t4 (Ne.symm GW.out));clear o4 t4;refine hK.out _ _ (ks4) (fun hHeld=>?_);clear hK K
    (try simp only[Act.put])
    refine wpAnyH_done (by kernel_rfl) ?_ _;go_wp2_with fail;go_ret;exact RES.out
   ·refine cH rfl 22 77 (.tmp 53) rfl Tryz.underlying22 _ IN.out u rfl ?_;intro z2 g2 b2;have L2:Hid (ak z2 z1.heap.size 77 (ax [u])) :=g2;have BB2:Hid (Below z1.heap.size z1 z2) :=b2;have E2:Hid (Below wm.heap.size wm z2) :=E1.out.trans (b2.mono E1.out.size)
    have RW2:Hid (z2.ownsRow 0 77 6 (.slice a n cap) n (ax us)) :=by
     show World.ownsRow _ _ _ _ _ _ _;rw[<- HN.out];exact(PMm.out.below E2.out).r
    clear g2 b2;refine hK.out _ _ (KS.out _ (aA.aq E2.out ah)) (fun hHeld=>?_);clear hK K
    (try simp only[Act.put,bB,bC,bD])
    refine rd 4 fun K hK=>?_;refine cD rfl 22 (.tmp 49) rfl ⟨g,0,none⟩ rfl (.slice a n cap) (LG.out _ (GO.out _ E2.out)) ?_;refine hK.out _ _ (KS.out _ (aA.aq E2.out ah)) (fun hHeld=>?_);clear hK K
    (try simp only[Act.put,bB,bC,bD])
    refine rd 9 fun K hK=>?_;refine bT rfl (.tmp 50) (.tmp 54) 22 rfl 0 77 i0 _ Tryz.underlying22 HI0 rfl (.slice a n cap) n us rfl RW2.out (some ⟨z1.heap.size,0,none⟩) 1 1 [u] rfl (.inr ⟨_,0,rfl,L2.out.lt,.of_cells L2.out⟩) rfl (by have:=N40.out;omega) (Nat.zero_le _) ?_;intro v3 z3 o3 b3 k3 x3;have X3:Hid (v3.ownBlock= (Value.slice a n cap).ownBlock\/v3.ownBlock=some z2.heap.size) :=x3
    obtain⟨va,vc,rfl,O3⟩:∃va vc,v3= .slice va (n+1) vc/\Hid (z3.ownsRow 0 77 6 v3 (n+1) (ax (us++ [u]))) :=by
     obtain⟨va,vc,hv,_⟩:=bY.bJ o3;exact⟨va,vc,hv,o3⟩
    have B3:=ad b3;have KK3:=ad k3;have ON3:Hid (aA S wm z3) := (aA.aq E2.out ah).trans ⟨b3.os,b3.tape,b3.output,b3.size,fun k h1 h2=>k3 k h1 fun e=>h2 (eC RW2.out HI.out.r k e.symm)⟩
    have GB3:Hid (ak z3 g 153 [.slice a n cap,.map (some gd),.map (some gf)]) :=by
     have h:= (PMm.out.below E2.out).o;rw[HN.out]at h;exact(k3 g h.lt (cS RW2.out h (by decide))).trans h
    clear o3 b3 k3;refine hK.out _ _ (KS.out _ ON3.out) (fun hHeld=>?_);clear hK K
    (try simp only[Act.put,bB,bC,bD])
    refine aJ 10 (h:=aJ 11 (h:=?_));simp only[Act.put,bB,bC,bD];refine rd 12 fun K hK=>?_;refine cg rfl 22 (.tmp 57) (.tmp 55) rfl g 0 rfl (.slice va (n+1) vc) rfl rfl S22.out 153 [.slice a n cap,.map (some gd),.map (some gf)] GB3.out (by show 0<3;decide) ?_;intro z4 o4 t4
    have RES:Hid (pJ w S g A ⟨⟨0,p,m,t,(L:Int)⟩,d⟩ (.returned (.int .i64 0)) z4) :=by
     obtain⟨q1,q2⟩:=PMm.out.fin HI.out ONm.out HL3.out ADR.out.symm FD.out FF.out NW.out E1.out BB2.out (by rw[HN.out];exact O3.out) B3.out (by rw[HN.out];exact KK3.out) (by rw[HN.out];exact X3.out) (by rw[HN.out];exact o4) t4;exact⟨0,rfl,ADR.out,q1,by rw[if_pos rfl];exact q2⟩
    have ks4: (fun w':World=>w'.cell? ⟨w.heap.size,0,none⟩=some (.int .i64 0)/\w'.cell? ⟨w.heap.size,1,none⟩=some (.string p)/\w'.cell? ⟨w.heap.size,2,none⟩=some (.int .i64 m)/\w'.cell? ⟨w.heap.size,3,none⟩=some (.string t)/\w'.cell? ⟨w.heap.size,4,none⟩=some (.int .i64 (L:Int))/\w'.cell? ⟨w.heap.size,5,none⟩=some (.slice x L xc)) z4:=KO.out _ ((KB.out _ ON3.out).aK t4 (Ne.symm GW.out));clear o4 t4;refine hK.out _ _ (ks4) (fun hHeld=>?_);clear hK K
    (try simp only[Act.put])
    refine wpAnyH_done (by kernel_rfl) ?_ _;go_wp2_with fail;go_ret;exact RES.out
 ·by_cases k1:k=1
  ·subst k1;have FD:Hid (Fm Fd (A++ [⟨⟨1,p,m,t,(L:Int)⟩,d⟩]) 0 (fun _=> .bool true)) :=HB.out.fd.stay (x:=⟨⟨1,p,m,t,(L:Int)⟩,d⟩) (by show¬(1:Int) =0;decide)
   have FF:Hid (Fm (rW Ff (.string p) (.int .i64 (n:Int))) (A++ [⟨⟨1,p,m,t,(L:Int)⟩,d⟩]) 1 (fun r=> .int .i64 (r:Int))) :=by
    have:=HB.out.ff.add (x:=⟨⟨1,p,m,t,(L:Int)⟩,d⟩) rfl (HB.out.ng.new CHR.out 1);rw[HN.out]at this;exact this
   go_wp2_with fail;refine wp_region_held_drew (S:= (fun w':World=>w'.cell? ⟨g,2,none⟩=some (.map (some gf))/\w'.cell? ⟨g,0,none⟩=some (.slice a n cap)/\w'.cell? ⟨w.heap.size,1,none⟩=some (.string p))) (by kernel_rfl) (⟨(PM0.out.below D0.out).o.get 2 rfl,by rw[<- HN.out];exact(PM0.out.below D0.out).o.get 0 rfl,(G2.out.below D0.out G2.out.lt).get 1 rfl⟩) (fun hHeld=>?_);refine aJ 0 (h:=aJ 1 (h:=aJ 2 (h:=aJ 3 (h:=?_))));simp only[Act.put,bB,bC,bD];refine aJ 4 (h:=aJ 5 (h:=aJ 6 (h:=aJ 7 (h:=?_))));simp only[Act.put,bB,bC,bD];refine aJ 8 (h:=aJ 9 (h:=aJ 10 (h:=aJ 11 (h:=?_))));simp only[Act.put,bB,bC,bD];refine rd 12 fun K hK=>?_;refine jK rfl 151 _ _ _ rfl 9 3 Tryz.underlying151 .string Tryz.underlying9 gf rfl (.string p) rfl (show IsKey .string (.string p)from trivial) (.int .i64 (n:Int)) rfl nf1 Ff (PM0.out.below D0.out).mf ?_;intro wm m8 t8;have PMm:=ad ((PM0.out.below D0.out).QU m8 t8);have MBm:=ad (((G2.out.below D0.out G2.out.lt)).aK t8 (Ne.symm GFW.out));have ONm:Hid (aA S w wm) := (aA.aq (B2.out.trans (D0.out.mono B2.out.size)) ah).trans (cX.only t8 HI.out.f);clear m8 t8;refine hK.out _ _ (⟨PMm.out.o.get 2 rfl,by rw[<- HN.out];exact PMm.out.o.get 0 rfl,MBm.out.get 1 rfl⟩) (fun hHeld=>?_);clear hK K
   (try simp only[Act.put])
   refine wpAnyH_done (by kernel_rfl) ?_ _;clear hHeld c0 c4 c5 g0
   have NC:Hid (∀w',Below wm.heap.size wm w'->Calls Tryz.prog 183 #[.pointer (some ⟨g,0,none⟩),.agg (fD 1 p m t (L:Int) x L xc).toArray] w' fun e w''=>∃u,e= .returned (.agg (fy u).toArray)/\Nw S w' w'' A ⟨⟨1,p,m,t,(L:Int)⟩,d⟩ u/\Below w'.heap.size w' w'') :=fun w' h=>by
    have:=qR (S:=S) (PMm.out.below h).o ⟨⟨⟨1,p,m,t,(L:Int)⟩,d⟩,x,xc⟩ (mC.Gj HY.out (ONm.out.trans (aA.aq h ah)) HYS.out) (by rw[HN.out];exact N40.out) (by show¬(1:Int) =3;decide);dsimp only[lI]at this;rw[HL.out]at this;exact this
   go_wp2_with fail;have E0:Hid (Below wm.heap.size wm wm.drew) :=aF.drew;have GO:Hid (∀w',Below wm.heap.size wm w'->w'.cell? ⟨g,0,none⟩=some (.slice a n cap)) :=fun w' h=>by rw[<- HN.out];exact(PMm.out.below h).o.get 0 rfl
   have KO:Hid (∀w',ak w' w.heap.size 70 (fD 1 p m t (L:Int) x L xc)-> (fun w':World=>w'.cell? ⟨w.heap.size,0,none⟩=some (.int .i64 1)/\w'.cell? ⟨w.heap.size,1,none⟩=some (.string p)/\w'.cell? ⟨w.heap.size,2,none⟩=some (.int .i64 m)/\w'.cell? ⟨w.heap.size,3,none⟩=some (.string t)/\w'.cell? ⟨w.heap.size,4,none⟩=some (.int .i64 (L:Int))/\w'.cell? ⟨w.heap.size,5,none⟩=some (.slice x L xc)) w') :=fun w' h=>⟨h.get 0 rfl,h.get 1 rfl,h.get 2 rfl,h.get 3 rfl,h.get 4 rfl,h.get 5 rfl⟩;have KB:Hid (∀w',aA S wm w'->ak w' w.heap.size 70 (fD 1 p m t (L:Int) x L xc)) :=fun w' h=>MBm.out.only h fun hs=>Nat.lt_irrefl _ (HL3.out _ hs);have KS:Hid (∀w',aA S wm w'-> (fun w':World=>w'.cell? ⟨w.heap.size,0,none⟩=some (.int .i64 1)/\w'.cell? ⟨w.heap.size,1,none⟩=some (.string p)/\w'.cell? ⟨w.heap.size,2,none⟩=some (.int .i64 m)/\w'.cell? ⟨w.heap.size,3,none⟩=some (.string t)/\w'.cell? ⟨w.heap.size,4,none⟩=some (.int .i64 (L:Int))/\w'.cell? ⟨w.heap.size,5,none⟩=some (.slice x L xc)) w') :=fun w' h=>KO.out _ (KB.out _ h);refine wp_region_held_drew (S:= (fun w':World=>w'.cell? ⟨w.heap.size,0,none⟩=some (.int .i64 1)/\w'.cell? ⟨w.heap.size,1,none⟩=some (.string p)/\w'.cell? ⟨w.heap.size,2,none⟩=some (.int .i64 m)/\w'.cell? ⟨w.heap.size,3,none⟩=some (.string t)/\w'.cell? ⟨w.heap.size,4,none⟩=some (.int .i64 (L:Int))/\w'.cell? ⟨w.heap.size,5,none⟩=some (.slice x L xc))) (by kernel_rfl) (KS.out _ (aA.aq E0.out ah)) (fun hHeld=>?_);refine aJ 0 (h:=aJ 1 (h:=aJ 2 (h:=aJ 3 (h:=?_))));simp only[Act.put,bB,bC,bD];refine aJ 5 (h:=aJ 6 (h:=?_));simp only[Act.put,bB,bC,bD];refine Lv (rc 4 (fun K hK=>?_) (rc 7 (fun K hK=>?_) .nil))
   ·refine cD rfl 22 (.tmp 49) rfl ⟨g,0,none⟩ rfl (.slice a n cap) (LG.out _ (GO.out _ E0.out)) ?_;refine hK.out _ _ (KS.out _ (aA.aq E0.out ah)) (fun hHeld=>?_);clear hK K
    (try simp only[Act.put,bB,bC,bD])
    refine rd 7 fun K hK=>?_;go_simp;refine(NC.out _ E0.out).mono ?_;rintro e z1 ⟨u,rfl,hu,b1⟩;have NW:Hid (Nw S wm z1 A ⟨⟨1,p,m,t,(L:Int)⟩,d⟩ u) :=⟨hu.n,hu.s,hu.f,hu.i⟩;have E1:Hid (Below wm.heap.size wm z1) :=E0.out.trans (b1.mono ah);clear hu b1;refine hK.out _ _ (KS.out _ (aA.aq E1.out ah)) (fun hHeld=>?_);clear hK K
    (try simp only[Act.put,bB,bC,bD])
    refine rd 8 fun K hK=>?_;refine cH rfl 22 77 (.tmp 53) rfl Tryz.underlying22 _ IN.out u rfl ?_;intro z2 g2 b2;have L2:Hid (ak z2 z1.heap.size 77 (ax [u])) :=g2;have BB2:Hid (Below z1.heap.size z1 z2) :=b2;have E2:Hid (Below wm.heap.size wm z2) :=E1.out.trans (b2.mono E1.out.size)
    have RW2:Hid (z2.ownsRow 0 77 6 (.slice a n cap) n (ax us)) :=by
     show World.ownsRow _ _ _ _ _ _ _;rw[<- HN.out];exact(PMm.out.below E2.out).r
    clear g2 b2;refine hK.out _ _ (KS.out _ (aA.aq E2.out ah)) (fun hHeld=>?_);clear hK K
    (try simp only[Act.put,bB,bC,bD])
    refine rd 9 fun K hK=>?_;refine bT rfl (.tmp 50) (.tmp 54) 22 rfl 0 77 i0 _ Tryz.underlying22 HI0 rfl (.slice a n cap) n us rfl RW2.out (some ⟨z1.heap.size,0,none⟩) 1 1 [u] rfl (.inr ⟨_,0,rfl,L2.out.lt,.of_cells L2.out⟩) rfl (by have:=N40.out;omega) (Nat.zero_le _) ?_;intro v3 z3 o3 b3 k3 x3;have X3:Hid (v3.ownBlock= (Value.slice a n cap).ownBlock\/v3.ownBlock=some z2.heap.size) :=x3
    obtain⟨va,vc,rfl,O3⟩:∃va vc,v3= .slice va (n+1) vc/\Hid (z3.ownsRow 0 77 6 v3 (n+1) (ax (us++ [u]))) :=by
     obtain⟨va,vc,hv,_⟩:=bY.bJ o3;exact⟨va,vc,hv,o3⟩
    have B3:=ad b3;have KK3:=ad k3;have ON3:Hid (aA S wm z3) := (aA.aq E2.out ah).trans ⟨b3.os,b3.tape,b3.output,b3.size,fun k h1 h2=>k3 k h1 fun e=>h2 (eC RW2.out HI.out.r k e.symm)⟩
    have GB3:Hid (ak z3 g 153 [.slice a n cap,.map (some gd),.map (some gf)]) :=by
     have h:= (PMm.out.below E2.out).o;rw[HN.out]at h;exact(k3 g h.lt (cS RW2.out h (by decide))).trans h
    clear o3 b3 k3;refine hK.out _ _ (KS.out _ ON3.out) (fun hHeld=>?_);clear hK K
    (try simp only[Act.put,bB,bC,bD])
    refine aJ 10 (h:=aJ 11 (h:=?_));simp only[Act.put,bB,bC,bD];refine rd 12 fun K hK=>?_;refine cg rfl 22 (.tmp 57) (.tmp 55) rfl g 0 rfl (.slice va (n+1) vc) rfl rfl S22.out 153 [.slice a n cap,.map (some gd),.map (some gf)] GB3.out (by show 0<3;decide) ?_;intro z4 o4 t4
    have RES:Hid (pJ w S g A ⟨⟨1,p,m,t,(L:Int)⟩,d⟩ (.returned (.int .i64 0)) z4) :=by
     obtain⟨q1,q2⟩:=PMm.out.fin HI.out ONm.out HL3.out ADR.out.symm FD.out FF.out NW.out E1.out BB2.out (by rw[HN.out];exact O3.out) B3.out (by rw[HN.out];exact KK3.out) (by rw[HN.out];exact X3.out) (by rw[HN.out];exact o4) t4;exact⟨0,rfl,ADR.out,q1,by rw[if_pos rfl];exact q2⟩
    have ks4: (fun w':World=>w'.cell? ⟨w.heap.size,0,none⟩=some (.int .i64 1)/\w'.cell? ⟨w.heap.size,1,none⟩=some (.string p)/\w'.cell? ⟨w.heap.size,2,none⟩=some (.int .i64 m)/\w'.cell? ⟨w.heap.size,3,none⟩=some (.string t)/\w'.cell? ⟨w.heap.size,4,none⟩=some (.int .i64 (L:Int))/\w'.cell? ⟨w.heap.size,5,none⟩=some (.slice x L xc)) z4:=KO.out _ ((KB.out _ ON3.out).aK t4 (Ne.symm GW.out));clear o4 t4;refine hK.out _ _ (ks4) (fun hHeld=>?_);clear hK K
    (try simp only[Act.put])
    refine wpAnyH_done (by kernel_rfl) ?_ _;go_wp2_with fail;go_ret;exact RES.out
   ·go_simp;refine(NC.out _ E0.out).mono ?_;rintro e z1 ⟨u,rfl,hu,b1⟩;have NW:Hid (Nw S wm z1 A ⟨⟨1,p,m,t,(L:Int)⟩,d⟩ u) :=⟨hu.n,hu.s,hu.f,hu.i⟩;have E1:Hid (Below wm.heap.size wm z1) :=E0.out.trans (b1.mono ah);clear hu b1;refine hK.out _ _ (KS.out _ (aA.aq E1.out ah)) (fun hHeld=>?_);clear hK K
    (try simp only[Act.put,bB,bC,bD])
    refine Lv (rc 4 (fun K hK=>?_) (rc 8 (fun K hK=>?_) .nil))
    ·refine cD rfl 22 (.tmp 49) rfl ⟨g,0,none⟩ rfl (.slice a n cap) (LG.out _ (GO.out _ E1.out)) ?_;refine hK.out _ _ (KS.out _ (aA.aq E1.out ah)) (fun hHeld=>?_);clear hK K
     (try simp only[Act.put,bB,bC,bD])
     refine rd 8 fun K hK=>?_;refine cH rfl 22 77 (.tmp 53) rfl Tryz.underlying22 _ IN.out u rfl ?_;intro z2 g2 b2;have L2:Hid (ak z2 z1.heap.size 77 (ax [u])) :=g2;have BB2:Hid (Below z1.heap.size z1 z2) :=b2;have E2:Hid (Below wm.heap.size wm z2) :=E1.out.trans (b2.mono E1.out.size)
     have RW2:Hid (z2.ownsRow 0 77 6 (.slice a n cap) n (ax us)) :=by
      show World.ownsRow _ _ _ _ _ _ _;rw[<- HN.out];exact(PMm.out.below E2.out).r
     clear g2 b2;refine hK.out _ _ (KS.out _ (aA.aq E2.out ah)) (fun hHeld=>?_);clear hK K
     (try simp only[Act.put,bB,bC,bD])
     refine rd 9 fun K hK=>?_;refine bT rfl (.tmp 50) (.tmp 54) 22 rfl 0 77 i0 _ Tryz.underlying22 HI0 rfl (.slice a n cap) n us rfl RW2.out (some ⟨z1.heap.size,0,none⟩) 1 1 [u] rfl (.inr ⟨_,0,rfl,L2.out.lt,.of_cells L2.out⟩) rfl (by have:=N40.out;omega) (Nat.zero_le _) ?_;intro v3 z3 o3 b3 k3 x3;have X3:Hid (v3.ownBlock= (Value.slice a n cap).ownBlock\/v3.ownBlock=some z2.heap.size) :=x3
     obtain⟨va,vc,rfl,O3⟩:∃va vc,v3= .slice va (n+1) vc/\Hid (z3.ownsRow 0 77 6 v3 (n+1) (ax (us++ [u]))) :=by
      obtain⟨va,vc,hv,_⟩:=bY.bJ o3;exact⟨va,vc,hv,o3⟩
     have B3:=ad b3;have KK3:=ad k3;have ON3:Hid (aA S wm z3) := (aA.aq E2.out ah).trans ⟨b3.os,b3.tape,b3.output,b3.size,fun k h1 h2=>k3 k h1 fun e=>h2 (eC RW2.out HI.out.r k e.symm)⟩
     have GB3:Hid (ak z3 g 153 [.slice a n cap,.map (some gd),.map (some gf)]) :=by
      have h:= (PMm.out.below E2.out).o;rw[HN.out]at h;exact(k3 g h.lt (cS RW2.out h (by decide))).trans h
     clear o3 b3 k3;refine hK.out _ _ (KS.out _ ON3.out) (fun hHeld=>?_);clear hK K
     (try simp only[Act.put,bB,bC,bD])
     refine aJ 10 (h:=aJ 11 (h:=?_));simp only[Act.put,bB,bC,bD];refine rd 12 fun K hK=>?_;refine cg rfl 22 (.tmp 57) (.tmp 55) rfl g 0 rfl (.slice va (n+1) vc) rfl rfl S22.out 153 [.slice a n cap,.map (some gd),.map (some gf)] GB3.out (by show 0<3;decide) ?_;intro z4 o4 t4
     have RES:Hid (pJ w S g A ⟨⟨1,p,m,t,(L:Int)⟩,d⟩ (.returned (.int .i64 0)) z4) :=by
      obtain⟨q1,q2⟩:=PMm.out.fin HI.out ONm.out HL3.out ADR.out.symm FD.out FF.out NW.out E1.out BB2.out (by rw[HN.out];exact O3.out) B3.out (by rw[HN.out];exact KK3.out) (by rw[HN.out];exact X3.out) (by rw[HN.out];exact o4) t4;exact⟨0,rfl,ADR.out,q1,by rw[if_pos rfl];exact q2⟩
     have ks4: (fun w':World=>w'.cell? ⟨w.heap.size,0,none⟩=some (.int .i64 1)/\w'.cell? ⟨w.heap.size,1,none⟩=some (.string p)/\w'.cell? ⟨w.heap.size,2,none⟩=some (.int .i64 m)/\w'.cell? ⟨w.heap.size,3,none⟩=some (.string t)/\w'.cell? ⟨w.heap.size,4,none⟩=some (.int .i64 (L:Int))/\w'.cell? ⟨w.heap.size,5,none⟩=some (.slice x L xc)) z4:=KO.out _ ((KB.out _ ON3.out).aK t4 (Ne.symm GW.out));clear o4 t4;refine hK.out _ _ (ks4) (fun hHeld=>?_);clear hK K
     (try simp only[Act.put])
     refine wpAnyH_done (by kernel_rfl) ?_ _;go_wp2_with fail;go_ret;exact RES.out
    ·refine cH rfl 22 77 (.tmp 53) rfl Tryz.underlying22 _ IN.out u rfl ?_;intro z2 g2 b2;have L2:Hid (ak z2 z1.heap.size 77 (ax [u])) :=g2;have BB2:Hid (Below z1.heap.size z1 z2) :=b2;have E2:Hid (Below wm.heap.size wm z2) :=E1.out.trans (b2.mono E1.out.size)
     have RW2:Hid (z2.ownsRow 0 77 6 (.slice a n cap) n (ax us)) :=by
      show World.ownsRow _ _ _ _ _ _ _;rw[<- HN.out];exact(PMm.out.below E2.out).r
     clear g2 b2;refine hK.out _ _ (KS.out _ (aA.aq E2.out ah)) (fun hHeld=>?_);clear hK K
     (try simp only[Act.put,bB,bC,bD])
     refine rd 4 fun K hK=>?_;refine cD rfl 22 (.tmp 49) rfl ⟨g,0,none⟩ rfl (.slice a n cap) (LG.out _ (GO.out _ E2.out)) ?_;refine hK.out _ _ (KS.out _ (aA.aq E2.out ah)) (fun hHeld=>?_);clear hK K
     (try simp only[Act.put,bB,bC,bD])
     refine rd 9 fun K hK=>?_;refine bT rfl (.tmp 50) (.tmp 54) 22 rfl 0 77 i0 _ Tryz.underlying22 HI0 rfl (.slice a n cap) n us rfl RW2.out (some ⟨z1.heap.size,0,none⟩) 1 1 [u] rfl (.inr ⟨_,0,rfl,L2.out.lt,.of_cells L2.out⟩) rfl (by have:=N40.out;omega) (Nat.zero_le _) ?_;intro v3 z3 o3 b3 k3 x3;have X3:Hid (v3.ownBlock= (Value.slice a n cap).ownBlock\/v3.ownBlock=some z2.heap.size) :=x3
     obtain⟨va,vc,rfl,O3⟩:∃va vc,v3= .slice va (n+1) vc/\Hid (z3.ownsRow 0 77 6 v3 (n+1) (ax (us++ [u]))) :=by
      obtain⟨va,vc,hv,_⟩:=bY.bJ o3;exact⟨va,vc,hv,o3⟩
     have B3:=ad b3;have KK3:=ad k3;have ON3:Hid (aA S wm z3) := (aA.aq E2.out ah).trans ⟨b3.os,b3.tape,b3.output,b3.size,fun k h1 h2=>k3 k h1 fun e=>h2 (eC RW2.out HI.out.r k e.symm)⟩
     have GB3:Hid (ak z3 g 153 [.slice a n cap,.map (some gd),.map (some gf)]) :=by
      have h:= (PMm.out.below E2.out).o;rw[HN.out]at h;exact(k3 g h.lt (cS RW2.out h (by decide))).trans h
     clear o3 b3 k3;refine hK.out _ _ (KS.out _ ON3.out) (fun hHeld=>?_);clear hK K
     (try simp only[Act.put,bB,bC,bD])
     refine aJ 10 (h:=aJ 11 (h:=?_));simp only[Act.put,bB,bC,bD];refine rd 12 fun K hK=>?_;refine cg rfl 22 (.tmp 57) (.tmp 55) rfl g 0 rfl (.slice va (n+1) vc) rfl rfl S22.out 153 [.slice a n cap,.map (some gd),.map (some gf)] GB3.out (by show 0<3;decide) ?_;intro z4 o4 t4
     have RES:Hid (pJ w S g A ⟨⟨1,p,m,t,(L:Int)⟩,d⟩ (.returned (.int .i64 0)) z4) :=by
      obtain⟨q1,q2⟩:=PMm.out.fin HI.out ONm.out HL3.out ADR.out.symm FD.out FF.out NW.out E1.out BB2.out (by rw[HN.out];exact O3.out) B3.out (by rw[HN.out];exact KK3.out) (by rw[HN.out];exact X3.out) (by rw[HN.out];exact o4) t4;exact⟨0,rfl,ADR.out,q1,by rw[if_pos rfl];exact q2⟩
     have ks4: (fun w':World=>w'.cell? ⟨w.heap.size,0,none⟩=some (.int .i64 1)/\w'.cell? ⟨w.heap.size,1,none⟩=some (.string p)/\w'.cell? ⟨w.heap.size,2,none⟩=some (.int .i64 m)/\w'.cell? ⟨w.heap.size,3,none⟩=some (.string t)/\w'.cell? ⟨w.heap.size,4,none⟩=some (.int .i64 (L:Int))/\w'.cell? ⟨w.heap.size,5,none⟩=some (.slice x L xc)) z4:=KO.out _ ((KB.out _ ON3.out).aK t4 (Ne.symm GW.out));clear o4 t4;refine hK.out _ _ (ks4) (fun hHeld=>?_);clear hK K
     (try simp only[Act.put])
     refine wpAnyH_done (by kernel_rfl) ?_ _;go_wp2_with fail;go_ret;exact RES.out
  ·have n0: (k==0) =false:=by simpa using k0
   have n1: (k==1) =false:=by simpa using k1
   have FD:Hid (Fm Fd (A++ [⟨⟨k,p,m,t,(L:Int)⟩,d⟩]) 0 (fun _=> .bool true)) :=HB.out.fd.stay (x:=⟨⟨k,p,m,t,(L:Int)⟩,d⟩) k0;have FF:Hid (Fm Ff (A++ [⟨⟨k,p,m,t,(L:Int)⟩,d⟩]) 1 (fun r=> .int .i64 (r:Int))) :=HB.out.ff.stay (x:=⟨⟨k,p,m,t,(L:Int)⟩,d⟩) k1;clear k0 k1;obtain⟨wm,hwm⟩:∃wm,wm=wz:=⟨_,rfl⟩;rw[<- hwm]at B2 G2 PM0 c0 c4 c5 g0;rw[<- hwm];clear D0 hwm;have PMm:=ad PM0.out;have MBm:=ad G2.out;have ONm:Hid (aA S w wm) :=aA.aq B2.out ah
   have NC:Hid (∀w',Below wm.heap.size wm w'->Calls Tryz.prog 183 #[.pointer (some ⟨g,0,none⟩),.agg (fD k p m t (L:Int) x L xc).toArray] w' fun e w''=>∃u,e= .returned (.agg (fy u).toArray)/\Nw S w' w'' A ⟨⟨k,p,m,t,(L:Int)⟩,d⟩ u/\Below w'.heap.size w' w'') :=fun w' h=>by
    have:=Gl (S:=S) (HB.out.below (B2.out.trans (h.mono B2.out.size))) HI.out ⟨⟨⟨k,p,m,t,(L:Int)⟩,d⟩,x,xc⟩ (mC.Gj HY.out (ONm.out.trans (aA.aq h ah)) HYS.out) (by rw[HN.out];exact N40.out) CHR.out;dsimp only[lI]at this;rw[HL.out]at this;exact this
   go_wp2_with fail;have E0:Hid (Below wm.heap.size wm wm.drew) :=aF.drew;have GO:Hid (∀w',Below wm.heap.size wm w'->w'.cell? ⟨g,0,none⟩=some (.slice a n cap)) :=fun w' h=>by rw[<- HN.out];exact(PMm.out.below h).o.get 0 rfl
   have KO:Hid (∀w',ak w' w.heap.size 70 (fD k p m t (L:Int) x L xc)-> (fun w':World=>w'.cell? ⟨w.heap.size,0,none⟩=some (.int .i64 k)/\w'.cell? ⟨w.heap.size,1,none⟩=some (.string p)/\w'.cell? ⟨w.heap.size,2,none⟩=some (.int .i64 m)/\w'.cell? ⟨w.heap.size,3,none⟩=some (.string t)/\w'.cell? ⟨w.heap.size,4,none⟩=some (.int .i64 (L:Int))/\w'.cell? ⟨w.heap.size,5,none⟩=some (.slice x L xc)) w') :=fun w' h=>⟨h.get 0 rfl,h.get 1 rfl,h.get 2 rfl,h.get 3 rfl,h.get 4 rfl,h.get 5 rfl⟩;have KB:Hid (∀w',aA S wm w'->ak w' w.heap.size 70 (fD k p m t (L:Int) x L xc)) :=fun w' h=>MBm.out.only h fun hs=>Nat.lt_irrefl _ (HL3.out _ hs);have KS:Hid (∀w',aA S wm w'-> (fun w':World=>w'.cell? ⟨w.heap.size,0,none⟩=some (.int .i64 k)/\w'.cell? ⟨w.heap.size,1,none⟩=some (.string p)/\w'.cell? ⟨w.heap.size,2,none⟩=some (.int .i64 m)/\w'.cell? ⟨w.heap.size,3,none⟩=some (.string t)/\w'.cell? ⟨w.heap.size,4,none⟩=some (.int .i64 (L:Int))/\w'.cell? ⟨w.heap.size,5,none⟩=some (.slice x L xc)) w') :=fun w' h=>KO.out _ (KB.out _ h);refine wp_region_held_drew (S:= (fun w':World=>w'.cell? ⟨w.heap.size,0,none⟩=some (.int .i64 k)/\w'.cell? ⟨w.heap.size,1,none⟩=some (.string p)/\w'.cell? ⟨w.heap.size,2,none⟩=some (.int .i64 m)/\w'.cell? ⟨w.heap.size,3,none⟩=some (.string t)/\w'.cell? ⟨w.heap.size,4,none⟩=some (.int .i64 (L:Int))/\w'.cell? ⟨w.heap.size,5,none⟩=some (.slice x L xc))) (by kernel_rfl) (KS.out _ (aA.aq E0.out ah)) (fun hHeld=>?_);refine aJ 0 (h:=aJ 1 (h:=aJ 2 (h:=aJ 3 (h:=?_))));simp only[Act.put,bB,bC,bD];refine aJ 5 (h:=aJ 6 (h:=?_));simp only[Act.put,bB,bC,bD];refine Lv (rc 4 (fun K hK=>?_) (rc 7 (fun K hK=>?_) .nil))
   ·refine cD rfl 22 (.tmp 49) rfl ⟨g,0,none⟩ rfl (.slice a n cap) (LG.out _ (GO.out _ E0.out)) ?_;refine hK.out _ _ (KS.out _ (aA.aq E0.out ah)) (fun hHeld=>?_);clear hK K
    (try simp only[Act.put,bB,bC,bD])
    refine rd 7 fun K hK=>?_;go_simp;refine(NC.out _ E0.out).mono ?_;rintro e z1 ⟨u,rfl,hu,b1⟩;have NW:Hid (Nw S wm z1 A ⟨⟨k,p,m,t,(L:Int)⟩,d⟩ u) :=⟨hu.n,hu.s,hu.f,hu.i⟩;have E1:Hid (Below wm.heap.size wm z1) :=E0.out.trans (b1.mono ah);clear hu b1;refine hK.out _ _ (KS.out _ (aA.aq E1.out ah)) (fun hHeld=>?_);clear hK K
    (try simp only[Act.put,bB,bC,bD])
    refine rd 8 fun K hK=>?_;refine cH rfl 22 77 (.tmp 53) rfl Tryz.underlying22 _ IN.out u rfl ?_;intro z2 g2 b2;have L2:Hid (ak z2 z1.heap.size 77 (ax [u])) :=g2;have BB2:Hid (Below z1.heap.size z1 z2) :=b2;have E2:Hid (Below wm.heap.size wm z2) :=E1.out.trans (b2.mono E1.out.size)
    have RW2:Hid (z2.ownsRow 0 77 6 (.slice a n cap) n (ax us)) :=by
     show World.ownsRow _ _ _ _ _ _ _;rw[<- HN.out];exact(PMm.out.below E2.out).r
    clear g2 b2;refine hK.out _ _ (KS.out _ (aA.aq E2.out ah)) (fun hHeld=>?_);clear hK K
    (try simp only[Act.put,bB,bC,bD])
    refine rd 9 fun K hK=>?_;refine bT rfl (.tmp 50) (.tmp 54) 22 rfl 0 77 i0 _ Tryz.underlying22 HI0 rfl (.slice a n cap) n us rfl RW2.out (some ⟨z1.heap.size,0,none⟩) 1 1 [u] rfl (.inr ⟨_,0,rfl,L2.out.lt,.of_cells L2.out⟩) rfl (by have:=N40.out;omega) (Nat.zero_le _) ?_;intro v3 z3 o3 b3 k3 x3;have X3:Hid (v3.ownBlock= (Value.slice a n cap).ownBlock\/v3.ownBlock=some z2.heap.size) :=x3
    obtain⟨va,vc,rfl,O3⟩:∃va vc,v3= .slice va (n+1) vc/\Hid (z3.ownsRow 0 77 6 v3 (n+1) (ax (us++ [u]))) :=by
     obtain⟨va,vc,hv,_⟩:=bY.bJ o3;exact⟨va,vc,hv,o3⟩
    have B3:=ad b3;have KK3:=ad k3;have ON3:Hid (aA S wm z3) := (aA.aq E2.out ah).trans ⟨b3.os,b3.tape,b3.output,b3.size,fun k h1 h2=>k3 k h1 fun e=>h2 (eC RW2.out HI.out.r k e.symm)⟩
    have GB3:Hid (ak z3 g 153 [.slice a n cap,.map (some gd),.map (some gf)]) :=by
     have h:= (PMm.out.below E2.out).o;rw[HN.out]at h;exact(k3 g h.lt (cS RW2.out h (by decide))).trans h
    clear o3 b3 k3;refine hK.out _ _ (KS.out _ ON3.out) (fun hHeld=>?_);clear hK K
    (try simp only[Act.put,bB,bC,bD])
    refine aJ 10 (h:=aJ 11 (h:=?_));simp only[Act.put,bB,bC,bD];refine rd 12 fun K hK=>?_;refine cg rfl 22 (.tmp 57) (.tmp 55) rfl g 0 rfl (.slice va (n+1) vc) rfl rfl S22.out 153 [.slice a n cap,.map (some gd),.map (some gf)] GB3.out (by show 0<3;decide) ?_;intro z4 o4 t4
    have RES:Hid (pJ w S g A ⟨⟨k,p,m,t,(L:Int)⟩,d⟩ (.returned (.int .i64 0)) z4) :=by
     obtain⟨q1,q2⟩:=PMm.out.fin HI.out ONm.out HL3.out ADR.out.symm FD.out FF.out NW.out E1.out BB2.out (by rw[HN.out];exact O3.out) B3.out (by rw[HN.out];exact KK3.out) (by rw[HN.out];exact X3.out) (by rw[HN.out];exact o4) t4;exact⟨0,rfl,ADR.out,q1,by rw[if_pos rfl];exact q2⟩
    have ks4: (fun w':World=>w'.cell? ⟨w.heap.size,0,none⟩=some (.int .i64 k)/\w'.cell? ⟨w.heap.size,1,none⟩=some (.string p)/\w'.cell? ⟨w.heap.size,2,none⟩=some (.int .i64 m)/\w'.cell? ⟨w.heap.size,3,none⟩=some (.string t)/\w'.cell? ⟨w.heap.size,4,none⟩=some (.int .i64 (L:Int))/\w'.cell? ⟨w.heap.size,5,none⟩=some (.slice x L xc)) z4:=KO.out _ ((KB.out _ ON3.out).aK t4 (Ne.symm GW.out));clear o4 t4;refine hK.out _ _ (ks4) (fun hHeld=>?_);clear hK K
    (try simp only[Act.put])
    refine wpAnyH_done (by kernel_rfl) ?_ _;go_wp2_with fail;go_ret;exact RES.out
   ·go_simp;refine(NC.out _ E0.out).mono ?_;rintro e z1 ⟨u,rfl,hu,b1⟩;have NW:Hid (Nw S wm z1 A ⟨⟨k,p,m,t,(L:Int)⟩,d⟩ u) :=⟨hu.n,hu.s,hu.f,hu.i⟩;have E1:Hid (Below wm.heap.size wm z1) :=E0.out.trans (b1.mono ah);clear hu b1;refine hK.out _ _ (KS.out _ (aA.aq E1.out ah)) (fun hHeld=>?_);clear hK K
    (try simp only[Act.put,bB,bC,bD])
    refine Lv (rc 4 (fun K hK=>?_) (rc 8 (fun K hK=>?_) .nil))
    ·refine cD rfl 22 (.tmp 49) rfl ⟨g,0,none⟩ rfl (.slice a n cap) (LG.out _ (GO.out _ E1.out)) ?_;refine hK.out _ _ (KS.out _ (aA.aq E1.out ah)) (fun hHeld=>?_);clear hK K
     (try simp only[Act.put,bB,bC,bD])
     refine rd 8 fun K hK=>?_;refine cH rfl 22 77 (.tmp 53) rfl Tryz.underlying22 _ IN.out u rfl ?_;intro z2 g2 b2;have L2:Hid (ak z2 z1.heap.size 77 (ax [u])) :=g2;have BB2:Hid (Below z1.heap.size z1 z2) :=b2;have E2:Hid (Below wm.heap.size wm z2) :=E1.out.trans (b2.mono E1.out.size)
     have RW2:Hid (z2.ownsRow 0 77 6 (.slice a n cap) n (ax us)) :=by
      show World.ownsRow _ _ _ _ _ _ _;rw[<- HN.out];exact(PMm.out.below E2.out).r
     clear g2 b2;refine hK.out _ _ (KS.out _ (aA.aq E2.out ah)) (fun hHeld=>?_);clear hK K
     (try simp only[Act.put,bB,bC,bD])
     refine rd 9 fun K hK=>?_;refine bT rfl (.tmp 50) (.tmp 54) 22 rfl 0 77 i0 _ Tryz.underlying22 HI0 rfl (.slice a n cap) n us rfl RW2.out (some ⟨z1.heap.size,0,none⟩) 1 1 [u] rfl (.inr ⟨_,0,rfl,L2.out.lt,.of_cells L2.out⟩) rfl (by have:=N40.out;omega) (Nat.zero_le _) ?_;intro v3 z3 o3 b3 k3 x3;have X3:Hid (v3.ownBlock= (Value.slice a n cap).ownBlock\/v3.ownBlock=some z2.heap.size) :=x3
     obtain⟨va,vc,rfl,O3⟩:∃va vc,v3= .slice va (n+1) vc/\Hid (z3.ownsRow 0 77 6 v3 (n+1) (ax (us++ [u]))) :=by
      obtain⟨va,vc,hv,_⟩:=bY.bJ o3;exact⟨va,vc,hv,o3⟩
     have B3:=ad b3;have KK3:=ad k3;have ON3:Hid (aA S wm z3) := (aA.aq E2.out ah).trans ⟨b3.os,b3.tape,b3.output,b3.size,fun k h1 h2=>k3 k h1 fun e=>h2 (eC RW2.out HI.out.r k e.symm)⟩
     have GB3:Hid (ak z3 g 153 [.slice a n cap,.map (some gd),.map (some gf)]) :=by
      have h:= (PMm.out.below E2.out).o;rw[HN.out]at h;exact(k3 g h.lt (cS RW2.out h (by decide))).trans h
     clear o3 b3 k3;refine hK.out _ _ (KS.out _ ON3.out) (fun hHeld=>?_);clear hK K
     (try simp only[Act.put,bB,bC,bD])
     refine aJ 10 (h:=aJ 11 (h:=?_));simp only[Act.put,bB,bC,bD];refine rd 12 fun K hK=>?_;refine cg rfl 22 (.tmp 57) (.tmp 55) rfl g 0 rfl (.slice va (n+1) vc) rfl rfl S22.out 153 [.slice a n cap,.map (some gd),.map (some gf)] GB3.out (by show 0<3;decide) ?_;intro z4 o4 t4
     have RES:Hid (pJ w S g A ⟨⟨k,p,m,t,(L:Int)⟩,d⟩ (.returned (.int .i64 0)) z4) :=by
      obtain⟨q1,q2⟩:=PMm.out.fin HI.out ONm.out HL3.out ADR.out.symm FD.out FF.out NW.out E1.out BB2.out (by rw[HN.out];exact O3.out) B3.out (by rw[HN.out];exact KK3.out) (by rw[HN.out];exact X3.out) (by rw[HN.out];exact o4) t4;exact⟨0,rfl,ADR.out,q1,by rw[if_pos rfl];exact q2⟩
     have ks4: (fun w':World=>w'.cell? ⟨w.heap.size,0,none⟩=some (.int .i64 k)/\w'.cell? ⟨w.heap.size,1,none⟩=some (.string p)/\w'.cell? ⟨w.heap.size,2,none⟩=some (.int .i64 m)/\w'.cell? ⟨w.heap.size,3,none⟩=some (.string t)/\w'.cell? ⟨w.heap.size,4,none⟩=some (.int .i64 (L:Int))/\w'.cell? ⟨w.heap.size,5,none⟩=some (.slice x L xc)) z4:=KO.out _ ((KB.out _ ON3.out).aK t4 (Ne.symm GW.out));clear o4 t4;refine hK.out _ _ (ks4) (fun hHeld=>?_);clear hK K
     (try simp only[Act.put])
     refine wpAnyH_done (by kernel_rfl) ?_ _;go_wp2_with fail;go_ret;exact RES.out
    ·refine cH rfl 22 77 (.tmp 53) rfl Tryz.underlying22 _ IN.out u rfl ?_;intro z2 g2 b2;have L2:Hid (ak z2 z1.heap.size 77 (ax [u])) :=g2;have BB2:Hid (Below z1.heap.size z1 z2) :=b2;have E2:Hid (Below wm.heap.size wm z2) :=E1.out.trans (b2.mono E1.out.size)
     have RW2:Hid (z2.ownsRow 0 77 6 (.slice a n cap) n (ax us)) :=by
      show World.ownsRow _ _ _ _ _ _ _;rw[<- HN.out];exact(PMm.out.below E2.out).r
     clear g2 b2;refine hK.out _ _ (KS.out _ (aA.aq E2.out ah)) (fun hHeld=>?_);clear hK K
     (try simp only[Act.put,bB,bC,bD])
     refine rd 4 fun K hK=>?_;refine cD rfl 22 (.tmp 49) rfl ⟨g,0,none⟩ rfl (.slice a n cap) (LG.out _ (GO.out _ E2.out)) ?_;refine hK.out _ _ (KS.out _ (aA.aq E2.out ah)) (fun hHeld=>?_);clear hK K
     (try simp only[Act.put,bB,bC,bD])
     refine rd 9 fun K hK=>?_;refine bT rfl (.tmp 50) (.tmp 54) 22 rfl 0 77 i0 _ Tryz.underlying22 HI0 rfl (.slice a n cap) n us rfl RW2.out (some ⟨z1.heap.size,0,none⟩) 1 1 [u] rfl (.inr ⟨_,0,rfl,L2.out.lt,.of_cells L2.out⟩) rfl (by have:=N40.out;omega) (Nat.zero_le _) ?_;intro v3 z3 o3 b3 k3 x3;have X3:Hid (v3.ownBlock= (Value.slice a n cap).ownBlock\/v3.ownBlock=some z2.heap.size) :=x3
     obtain⟨va,vc,rfl,O3⟩:∃va vc,v3= .slice va (n+1) vc/\Hid (z3.ownsRow 0 77 6 v3 (n+1) (ax (us++ [u]))) :=by
      obtain⟨va,vc,hv,_⟩:=bY.bJ o3;exact⟨va,vc,hv,o3⟩
     have B3:=ad b3;have KK3:=ad k3;have ON3:Hid (aA S wm z3) := (aA.aq E2.out ah).trans ⟨b3.os,b3.tape,b3.output,b3.size,fun k h1 h2=>k3 k h1 fun e=>h2 (eC RW2.out HI.out.r k e.symm)⟩
     have GB3:Hid (ak z3 g 153 [.slice a n cap,.map (some gd),.map (some gf)]) :=by
      have h:= (PMm.out.below E2.out).o;rw[HN.out]at h;exact(k3 g h.lt (cS RW2.out h (by decide))).trans h
     clear o3 b3 k3;refine hK.out _ _ (KS.out _ ON3.out) (fun hHeld=>?_);clear hK K
     (try simp only[Act.put,bB,bC,bD])
     refine aJ 10 (h:=aJ 11 (h:=?_));simp only[Act.put,bB,bC,bD];refine rd 12 fun K hK=>?_;refine cg rfl 22 (.tmp 57) (.tmp 55) rfl g 0 rfl (.slice va (n+1) vc) rfl rfl S22.out 153 [.slice a n cap,.map (some gd),.map (some gf)] GB3.out (by show 0<3;decide) ?_;intro z4 o4 t4
     have RES:Hid (pJ w S g A ⟨⟨k,p,m,t,(L:Int)⟩,d⟩ (.returned (.int .i64 0)) z4) :=by
      obtain⟨q1,q2⟩:=PMm.out.fin HI.out ONm.out HL3.out ADR.out.symm FD.out FF.out NW.out E1.out BB2.out (by rw[HN.out];exact O3.out) B3.out (by rw[HN.out];exact KK3.out) (by rw[HN.out];exact X3.out) (by rw[HN.out];exact o4) t4;exact⟨0,rfl,ADR.out,q1,by rw[if_pos rfl];exact q2⟩
     have ks4: (fun w':World=>w'.cell? ⟨w.heap.size,0,none⟩=some (.int .i64 k)/\w'.cell? ⟨w.heap.size,1,none⟩=some (.string p)/\w'.cell? ⟨w.heap.size,2,none⟩=some (.int .i64 m)/\w'.cell? ⟨w.heap.size,3,none⟩=some (.string t)/\w'.cell? ⟨w.heap.size,4,none⟩=some (.int .i64 (L:Int))/\w'.cell? ⟨w.heap.size,5,none⟩=some (.slice x L xc)) z4:=KO.out _ ((KB.out _ ON3.out).aK t4 (Ne.symm GW.out));clear o4 t4;refine hK.out _ _ (ks4) (fun hHeld=>?_);clear hK K
     (try simp only[Act.put])
     refine wpAnyH_done (by kernel_rfl) ?_ _;go_wp2_with fail;go_ret;exact RES.out
end Go.Proofs.YtcjagakckffkiaaGreatDoor.Reb
