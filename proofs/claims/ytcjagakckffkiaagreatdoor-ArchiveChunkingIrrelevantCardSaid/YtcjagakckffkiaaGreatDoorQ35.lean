import Derived.Test.YtcjagakckffkiaaGreatDoorQ29
import Derived.Test.YtcjagakckffkiaaGreatDoorQ1
import Derived.Test.YtcjagakckffkiaaGreatDoorQ7
import Derived.Test.YtcjagakckffkiaaGreatDoorQ10
import Derived.Test.YtcjagakckffkiaaGreatDoorQ24
import Derived.Test.YtcjagakckffkiaaGreatDoorQ16
import Derived.Test.YtcjagakckffkiaaGreatDoorQ34
import Derived.Test.YtcjagakckffkiaaGreatDoorQ19
import Derived.Test.YtcjagakckffkiaaGreatDoorQ8
import Derived.Test.YtcjagakckffkiaaGreatDoorQ0
import Derived.Laws.IdiomCopy
import Derived.Laws.IdiomStrings
import Derived.Deep.DeepMust
import Derived.Test.YtcjagakckffkiaaGreatDoorQ20
import Derived.Test.YtcjagakckffkiaaGreatDoorQ21
import Derived.Test.YtcjagakckffkiaaGreatDoorQ9
import Derived.Test.YtcjagakckffkiaaGreatDoorQ11
import Derived.Test.YtcjagakckffkiaaGreatDoorQ12
import Derived.Test.YtcjagakckffkiaaGreatDoorQ13
import Derived.Test.YtcjagakckffkiaaGreatDoorQ5
import Derived.BigQuiet
import Derived.Test.YtcjagakckffkiaaGreatDoorQ17
import Derived.Test.YtcjagakckffkiaaGreatDoorRows
import Derived.Test.YtcjagakckffkiaaGreatDoorQ3
import Derived.Test.YtcjagakckffkiaaGreatDoorQ25
import Derived.Test.YtcjagakckffkiaaGreatDoorQ33
import Derived.Test.YtcjagakckffkiaaGreatDoorQ15
set_option maxHeartbeats 16000000
namespace Go.Proofs.YtcjagakckffkiaaGreatDoor.Flt
open Go.RowKit Go.Proofs.YtcjagakckffkiaaGreatDoor.Fit Pnm Tre
def PI (B:Nat)(w:World)(u:ft) :Prop:=w.ownsRow B 5 1 (.slice u.a u.n.d.length u.cap) u.n.d.length (u.n.d.map (.int .u8))
structure Nc (u:ft) :Prop where
 k: (Lit.int .i64 u.n.e.k).wf=true
 p:u.n.e.p.size<=140737488355328
 m: (Lit.int .i64 u.n.e.m).wf=true
 t:u.n.e.t.size<=140737488355328
 s: (Lit.int .i64 u.n.e.s).wf=true
 z:∀z∈u.n.d,(Lit.int .u8 z).wf=true
 l:u.n.d.length<=140737488355328
theorem Nc.f {B:Nat}{w:World}{u:ft}(h:Nc u)(hf:PI B w u) :mC w u:=by
 obtain⟨b,cap',hv,hi,hc,hm,hl,hx⟩:=bl hf;injection hv with e1 _ e3;refine⟨h.k,h.p,h.m,h.t,h.s,?_,h.l⟩;rw[e1,e3];refine⟨rfl,hc,hm,h.z,?_⟩;rcases Nat.eq_zero_or_pos u.n.d.length with h0|h0
 ·exact .inl h0
 ·obtain⟨b',off,rfl,hlt⟩:=hi.plain h0;exact .inr ⟨b',off,rfl,hlt,fun i hi'=>hi.get i hi'⟩
structure RM (B:Nat) (C:List Nd) (w:World) (us:List ft) (j:Nat) (v:Value) :Prop where
 own:w.ownsRow B 70 6 v j (bZ us)
 el:∀i u,us[i]? =some u->u.n=mb C i/\Nc u/\PI B w u
theorem RM.len {B:Nat}{C:List Nd}{w:World}{us:List ft}{j:Nat}{v:Value}(h:RM B C w us j v) :us.length=j:=by
 have:=h.own.1;rw[iv]at this;omega
theorem RM.done {B:Nat}{C:List Nd}{w:World}{us:List ft}{n:Nat}{v:Value}(h:RM B C w us n v)(hn:C.length=n) :qz us=oE C/\∀u∈us,mC w u:=by
 have hl:=h.len;constructor
 ·refine List.ext_getElem? fun i=>?_;by_cases hi:i<n
  ·have e:us[i]? =some us[i] :=List.getElem?_eq_getElem (by omega);rw[rH e,gp (by omega),(h.el i _ e).1]
  ·rw[List.getElem?_eq_none (by rw[lh];omega),List.getElem?_eq_none (by rw[dv];omega)]
 ·intro u hu;obtain⟨i,hi,rfl⟩:=List.getElem_of_mem hu;obtain⟨_,h2,h3⟩:=h.el i _ (List.getElem?_eq_getElem hi);exact h2.f h3
end Go.Proofs.YtcjagakckffkiaaGreatDoor.Flt
namespace Go.Proofs.YtcjagakckffkiaaGreatDoor.Flt
open Go.RowKit Go.Proofs.YtcjagakckffkiaaGreatDoor.Fit Pnm Tre
def Mt (C:List Nd)(i j:Nat) :Prop:=0< (nd C i).c/\ (nd C j).c= (nd C i).c
structure QT (C:List Nd) (i b:Nat) :Prop where
 le:b<=i
 m:b<i->Mt C i b
 no:∀j,j<b->¬Mt C i j
theorem QT.fr {C:List Nd}{i b:Nat}(h:QT C i b)(hi:i<C.length) : (b=i->fr C i (nd C i).c=none)/\ (b<i->fr C i (nd C i).c=some (nd C b)) :=by
 have no:∀j,j<b->¬(0< (nd C j).c/\ (nd C j).c= (nd C i).c) :=fun j hj hm=>h.no j hj ⟨by omega,hm.2⟩;constructor
 ·rintro rfl;exact(fi (Nat.le_of_lt hi)).mpr no
 ·intro hb;have hm:=h.m hb;unfold Mt at hm;exact zL (Nat.le_of_lt hi) hb (by omega) hm.2 ((fi (by omega)).mpr no)
end Go.Proofs.YtcjagakckffkiaaGreatDoor.Flt
namespace Go.Proofs.YtcjagakckffkiaaGreatDoor.Arc
open Go.RowKit Go.Proofs.YtcjagakckffkiaaGreatDoor.Fit Pnm Tre Flt dO Reb
noncomputable def nM (l:List Nd) :List Int:=if(dA l).2=0 then cy (iF l)else []
theorem Gc (N:Nat) :Int.tmod (N:Int) 512= ((N % 512:Nat) :Int) :=by rw[Int.tmod_eq_emod_of_nonneg (by omega)];omega
end Go.Proofs.YtcjagakckffkiaaGreatDoor.Arc
namespace Go.Proofs.YtcjagakckffkiaaGreatDoor
open Go.RowKit
theorem uP {P:Program}(w:World)(t e:TypeId)(ht:P.underlying t=some (.slice e))(i0:TypeInfo)(hI:Hid (P.info? e=some i0/\i0.zero=some (.int .u8 0)/\i0.size=1/\i0.bytes=1))(n:Nat)(hn:n<=140737488355328) :
 ∃w',(Instr.makeSlice t (.int .i64 n) (.int .i64 n)).run P w= .ok (.slice (some ⟨w.heap.size,0,none⟩) n n) w'/\bP w' w.heap.size e (ao n)/\Below w.heap.size w w':=by
 obtain⟨w',hr,h1,h2⟩:=run_make_full (P:=P) w w.heap.size t e i0 (.int .u8 0) 1 ht hI.out.1 hI.out.2.1 hI.out.2.2.1 .i64 .i64 n (by rw[hI.out.2.2.2];omega) (by unfold maxLen;omega) ah
 have hm: (madeCells (Value.int .u8 0).cells (n*1)).toList= (ao n).map (.int .u8) :=by
  apply List.ext_getElem?;intro i;by_cases h:i<n<;>simp[ao,madeCells,Value.cells,h,Nat.mod_one]
 rw[hm]at h1;exact⟨w',hr,.bJ h1 (cZ n),aF.grown h2 ah (fun _ h=>by cases h)⟩
end Go.Proofs.YtcjagakckffkiaaGreatDoor
namespace Go.Proofs.YtcjagakckffkiaaGreatDoor.Arc
open Go.Lib Go.RowKit Go.Proofs.YtcjagakckffkiaaGreatDoor.Fit bL Pnm Tre Flt dO Reb
section
variable {P:Program} {w:World} {ops:Array Oper} {o:Oper} {a:Act} {Q:Exit->Act->World->Prop} {K:Act->World->Prop} {E:Prop}
theorem sw (hw:Region.wanted o (yielded ops a.tmps) =true)(l c:Operand)(t e:TypeId)(ho:o.op= .makeSlice t l c)(n:Nat)(hl:a.eval l= .int .i64 n)(hc:a.eval c= .int .i64 n)(ht:P.underlying t=some (.slice e))(i0:TypeInfo)(hI:Hid (P.info? e=some i0/\i0.zero=some (.int .u8 0)/\i0.size=1/\i0.bytes=1))(hn:n<=140737488355328)
 (h:∀w',bP w' w.heap.size e (ao n)->Below w.heap.size w w'->K (a.put o.dst (.slice (some ⟨w.heap.size,0,none⟩) n n)) w') :
 if Region.wanted o (yielded ops a.tmps) =true then Oper.wp P o a w K Q else E:=by
 rw[if_pos hw];obtain⟨w',hr,h1,h2⟩:=uP (P:=P) w t e ht i0 hI n hn;unfold Oper.wp;simp only[execOp,ho,hl,hc,hr,Result.andThen_ok,Sem.run_bind,Sem.run_pure];exact h w' h1 h2
end
theorem uj:nM [] =ao 1024/\ (dA []).2=0:=by
 have h: (dA ([] :List Nd)).2=0:=by decide
 refine⟨?_,h⟩;unfold nM;rw[if_pos h];have:iF ([] :List Nd) = [] :=by unfold iF;rw[if_pos h];rfl
 rw[this];rfl
theorem Kq:pO (ao 1025) 4=⟨[],1024,18⟩:=by
 have h:=zA (A:= []) uA (M:= [0]) (by simp)
 have e:cy [] ++ [0] =ao 1025:=by
  show ao 1024++ [0] =_;rw[show ao 1025=ao (1024+1)from rfl,dK];rfl
 have l: (cy ([] :List Mb)).length=1024:=by show(ao 1024).length=_;rw[al]
 rw[e,l]at h;exact h
def xo (B0:Nat) :Prop:=∀a n cap ys w,br w a n cap ys->n<=1000-> (cq (iF (aI ys))).length<=70000000->MV B0 w->Calls Tryz.prog 14 #[.slice a n cap] w (kg (nM (aI ys)) (dA (aI ys)).2 w)
def xI (B0:Nat) :Prop:=∀a n cap zs w (I:List Mb->Nat->Prop),BytesIn w a zs->zs.length=n->n<=cap->n<=100000000->Inv zs 4 I->MV B0 w->Calls Tryz.prog 21 #[.slice a n cap] w fun e w'=>sL (pO zs 4) e w'/\Below w.heap.size w w'
set_option maxRecDepth 100000 in
theorem aX {B0:Nat}(w:World)(HE:xo B0)(HD:xI B0)(V:MV B0 w) :Calls Tryz.prog 13 #[] w fun e w'=>e= .returned (.bool true)/\Below w.heap.size w w':=by
 obtain⟨i0,HI⟩:=fO (P:=Tryz.prog) (e:=5) (by kernel_rfl);have EC:=ad (HE none 0 0 [] w ⟨rfl,ah,Nat.zero_le _,.inl rfl,fun _ h=>by cases h⟩ (Nat.zero_le _) (by show(cq (iF [])).length<=_;have:iF ([] :List Nd) = [] :=by{unfold iF;rw[if_pos uj.2];rfl};rw[this];decide) V);have HDD:=ad HD;have HV:=ad V;clear HE HD V;obtain⟨Z0,hZ0⟩:=named (ao 1024);obtain⟨Z1,hZ1⟩:=named (ao 1025);have e0:nM (aI []) =Z0/\ (dA (aI [])).2=0:=⟨by rw[hZ0.out];exact uj.1,uj.2⟩;rw[e0.1,e0.2]at EC;clear e0;have L0:Hid (Z0.length=1024) :=by show _=_;rw[hZ0.out,al]
 have L1:Hid (Z1.length=1025) :=by show _=_;rw[hZ1.out,al]
 have RE:Hid (pO Z1 4=⟨[],1024,18⟩) :=by show _=_;rw[hZ1.out];exact Kq
 go_enter Tryz.func13,Tryz.ntmps13;go_wp2_with fail;refine EC.out.mono ?_;rintro e w1 ⟨b1,n1,c1,rfl,l1,lc1,lm1,i1,_,bb1⟩;obtain rfl:n1=1024:=l1.symm.trans L0.out;have I1:=ad i1;have B1:=ad bb1;have V1:=ad (HV.out.go bb1);clear l1 lc1 lm1 i1 bb1 EC;go_wp2_with (first| (refine dE rfl _ _ 25 5 rfl Tryz.underlying25 i0 HI 1025 rfl rfl (by decide) ?_;intro w2 h2 b2;have H2:=ad h2;have B2:=ad b2;clear h2 b2));rw[<- hZ1.out]at H2;have V2:=ad (V1.out.go B2.out);have hs1:=B1.out.size;refine(HDD.out (some ⟨w1.heap.size,0,none⟩) 1025 1025 Z1 w2 (fun A o=>A.length*512<=o) H2.out.bytes L1.out ah (by decide) (iT (.inr rfl) (by rw[L1.out];decide)) V2.out).mono ?_;rintro e w3 ⟨⟨a3,n3,c3,z3,rfl,_,_⟩,b3⟩;rw[RE.out];have B3:=ad (B1.out.trans ((B2.out.trans (b3.mono B2.out.size)).mono B1.out.size));have I3:=ad (I1.out.below (B2.out.trans (b3.mono B2.out.size)));have L3:=ad (Nat.le_trans B2.out.size b3.size);clear b3;have CV:Hid (∀wS,Below w3.heap.size w3 wS-> (convert 25 9 (.slice b1 1024 c1)).run Tryz.prog wS= .ok (.string (strOfNums Z0)) wS) :=fun wS h=>bF Tryz.underlying25 Tryz.underlying5 Tryz.underlying9 (I3.out.below h) 1024 c1 L0.out;go_wp2_with fail;refine wp_region_held_drew (S:= (fun wS=>Below w3.heap.size w3 wS/\ (convert 25 9 (.slice b1 1024 c1)).run Tryz.prog wS= .ok (.string (strOfNums Z0)) wS)) (by kernel_rfl) (⟨aF.drew,CV.out _ aF.drew⟩) (fun hHeld=>?_);refine aJ 0 (h:=aJ 1 (h:=aJ 2 (h:=aJ 3 (h:=?_))));simp only[Act.put,bB,bC,bD];refine tk 4 ?_;simp only[Act.put,bB,bC,bD];refine rd 5 (fun K hK=>?_);refine sw (by rfl) _ _ 25 5 rfl 1024 rfl rfl Tryz.underlying25 i0 HI (by decide) ?_;intro w4 h4 b4;have B4:Hid (Below w3.heap.size w3 w4) :=ar aF.drew b4;have KP:Hid ((fun wS=>Below w3.heap.size w3 wS/\ (convert 25 9 (.slice b1 1024 c1)).run Tryz.prog wS= .ok (.string (strOfNums Z0)) wS) w4) :=⟨B4.out,CV.out _ B4.out⟩
 have C2:Hid (∀wS,Below w4.heap.size w4 wS-> (convert 25 9 (.slice (some ⟨w3.heap.size,0,none⟩) 1024 1024)).run Tryz.prog wS= .ok (.string (strOfNums Z0)) wS) :=fun wS h=>by
  rw[<- hZ0.out]at h4;exact bF Tryz.underlying25 Tryz.underlying5 Tryz.underlying9 ((bP.bytes (h4:bP w4 w3.heap.size _ _)).below h) 1024 1024 L0.out
 clear h4 b4;refine hK.out _ _ KP.out (fun hHeld=>?_);clear hK K
 (try simp only[Act.put,bB,bC,bD])
 refine fN (S2:= (fun wS=> (fun wS=>Below w3.heap.size w3 wS/\ (convert 25 9 (.slice b1 1024 c1)).run Tryz.prog wS= .ok (.string (strOfNums Z0)) wS) wS/\ (convert 25 9 (.slice (some ⟨w3.heap.size,0,none⟩) 1024 1024)).run Tryz.prog wS= .ok (.string (strOfNums Z0)) wS)) (fun _ h=>h.1) ?_;have hHeld: (fun wS=> (fun wS=>Below w3.heap.size w3 wS/\ (convert 25 9 (.slice b1 1024 c1)).run Tryz.prog wS= .ok (.string (strOfNums Z0)) wS) wS/\ (convert 25 9 (.slice (some ⟨w3.heap.size,0,none⟩) 1024 1024)).run Tryz.prog wS= .ok (.string (strOfNums Z0)) wS) w4:=⟨KP.out,C2.out _ aF⟩;refine aJ 6 (h:=aJ 7 (h:=aJ 8 (h:=aJ 9 (h:=?_))));simp only[Act.put,bB,bC,bD];refine aJ 10 (h:=aJ 11 (h:=aJ 12 (h:=aJ 13 (h:=?_))));simp only[Act.put,bB,bC,bD];refine aJ 14 (h:=aJ 15 (h:=aJ 16 (h:=?_)));simp only[Act.put,bB,bC,bD];refine tk 17 ?_;simp only[Act.put,bB,bC];refine wpAnyH_done (by kernel_rfl) ?_ _;go_wp2_with fail;go_ret;exact⟨rfl,B3.out.trans (B4.out.mono (Nat.le_trans (Nat.le_trans B1.out.size ah) L3.out))⟩
end Go.Proofs.YtcjagakckffkiaaGreatDoor.Arc
namespace Go.Proofs.YtcjagakckffkiaaGreatDoor.Arc
open Go.Lib Go.RowKit Go.Proofs.YtcjagakckffkiaaGreatDoor.Fit bL Pnm Tre Flt dO Reb
section
variable {Z:List Int} {k o:Nat}
theorem qL {m:Nat}(h:o+m<=k) : ((Z.take k).drop o).take m= (Z.drop o).take m:=by
 rw[List.drop_take,List.take_take,Nat.min_eq_left (by omega)]
theorem qm (hk:k<=Z.length) : (o+512<=k/\bM (Z.take k) 11 o 0=0/\bM Z 4 o 0=0/\ ((Z.take k).drop o).take 512= (Z.drop o).take 512)\/ (¬o+512<=k/\bM (Z.take k) 11 o 0=11/\fu (Z.take k) o 0=k) :=by
 have hl: (Z.take k).length=k:=by rw[List.length_take];omega
 by_cases h:o+512<=k
 ·exact .inl ⟨h,(fx (by omega)).2.1,(fx (by omega)).2.1,qL h⟩
 ·have:=eR (Z:=Z.take k) (E:=11) (o:=o) (by omega);refine .inr ⟨h,by rw[this.2.1,if_neg (by intro c;exact absurd c.1 (by decide))],by rw[this.2.2,hl]⟩
theorem zJ (hk:k<=Z.length)(ho:o<=k)(s:Int) :
 (eO (Z.take k) 11 o 0 s=11/\mw (Z.take k) o 0 s=k)\/ (eO (Z.take k) 11 o 0 s=eO Z 4 o 0 s/\mw (Z.take k) o 0 s=mw Z o 0 s/\gw (Z.take k) o 0 s=gw Z o 0 s/\jQ (Z.take k) o 0 s=jQ Z o 0 s/\nP (Z.take k) 11 o 0 s=nP Z 4 o 0 s) :=by
 have hl: (Z.take k).length=k:=by rw[List.length_take];omega
 by_cases hb:dm s
 ·obtain⟨a1,a2,a3,a4,a5⟩:=lK (Z:=Z.take k) (E:=11) (o:=o) (err:=0) hb;obtain⟨b1,b2,b3,b4,b5⟩:=lK (Z:=Z) (E:=4) (o:=o) (err:=0) hb;exact .inr ⟨by rw[a1,b1],by rw[a2,b2],by rw[a3,b3],by rw[a4,b4],by rw[a5,b5]⟩
 obtain⟨m,rfl⟩:∃m:Nat,s= (m:Int) :=⟨s.toNat,by unfold dm at hb;omega⟩;have hm:m<=1099511627776:=by unfold dm at hb;omega
 by_cases hok:dM (Z.take k) o 0 (aZ m)
 ·have hle:o+512*aZ m<=k:=by
   rcases hok with q|q
   ·rw[q];omega
   ·have:=q.2;omega
  have hok':dM Z o 0 (aZ m) := .inr ⟨rfl,by omega⟩;have hpad:bj (Z.take k) o m=bj Z o m:=by unfold bj;rw[qL hle]
  have hd: ((Z.take k).drop o).take m= (Z.drop o).take m:=qL (by have:=ny m;omega);refine .inr ?_;by_cases hi:gx (bj Z o m) < (bj Z o m).length
  ·obtain⟨a1,a2,a3,a4,a5⟩:=gM (E:=11) hm rfl hok (by rw[hpad];exact hi);obtain⟨b1,b2,b3,b4,b5⟩:=gM (E:=4) hm rfl hok' hi;exact⟨by rw[a1,b1],by rw[a2,b2,hpad],by rw[a3,b3],by rw[a4,b4],by rw[a5,b5]⟩
  ·obtain⟨a1,a2,a3,a4,a5⟩:=jN (E:=11) hm rfl hok (by rw[hpad];exact hi);obtain⟨b1,b2,b3,b4,b5⟩:=jN (E:=4) hm rfl hok' hi;exact⟨by rw[a1,b1],by rw[a2,b2],by rw[a3,b3,hd],by rw[a4,b4],by rw[a5,b5]⟩
 ·obtain⟨a1,a2,-⟩:=jM (E:=11) hm rfl hok;refine .inl ⟨?_,?_⟩
  ·have hp:jY (Z.take k) 11 o 0 (aZ m) =11:=by
    unfold jY;rw[if_neg hok,if_neg (fun c=>c rfl),if_neg (fun c=>absurd c.1 (by decide))]
   rw[a1,hp];rfl
  ·rw[a2];unfold rJ;rw[if_neg hok,if_neg (fun c=>c rfl),hl]
theorem GP (hk:k<=Z.length) : ((du (Z.take k) 11 o 0).e=11/\ (du (Z.take k) 11 o 0).p=k)\/du (Z.take k) 11 o 0=du Z 4 o 0:=by
 unfold du;rcases qm (o:=o) hk with⟨h1,h2,h3,h4⟩|⟨h1,h2,h3⟩
 ·rw[if_neg (by rw[h2];decide),if_neg (by rw[h3];decide),h4];unfold pg
  split
  ·exact .inr rfl
  ·split
   ·exact .inr rfl
   ·split
    ·unfold nQ
     split
     ·exact .inr rfl
     ·rcases zJ (o:=o+512) hk h1 (iB ((Z.drop o).take 512)).sz with⟨q1,q2⟩|⟨q1,q2,q3,q4,q5⟩
      ·rw[if_pos (by rw[q1];decide)];exact .inl ⟨q1,q2⟩
      ·rw[q1,q2,q3,q4,q5]
       split
       ·exact .inr rfl
       ·unfold CF
        split
        ·exact .inr rfl
        ·obtain⟨o2,ho2⟩:∃o2,o2=jQ Z (o+512) 0 (iB ((Z.drop o).take 512)).sz:=⟨_,rfl⟩;rw[<- ho2];rcases qm (o:=o2) hk with⟨g1,g2,g3,g4⟩|⟨g1,g2,g3⟩
         ·rw[if_neg (by rw[g2];decide),if_neg (by rw[g3];decide)];unfold Dc;rw[g4];exact .inr rfl
         ·rw[if_pos (by rw[g2];decide)];refine .inl ⟨?_,g3⟩;show(if bM (Z.take k) 11 o2 0=4 then(5:Int)else bM (Z.take k) 11 o2 0) =11;rw[g2];rfl
    ·exact .inr rfl
 ·rw[if_pos (by rw[h2];decide)];exact .inl ⟨h2,h3⟩
theorem Fq (hk:k<=Z.length)(A:List Mb) : ((jX (Z.take k) 11 A o).e=11/\ (jX (Z.take k) 11 A o).p=k)\/jX (Z.take k) 11 A o=jX Z 4 A o:=by
 unfold jX;rcases qm (o:=o) hk with⟨h1,h2,h3,h4⟩|⟨h1,h2,h3⟩
 ·rw[h2,h3,h4,if_neg (show¬((0:Int)≠0)from fun c=>c rfl),if_neg (show¬((0:Int)≠0)from fun c=>c rfl)]
  split
  ·exact .inr rfl
  ·rcases qm (o:=o+512) hk with⟨g1,g2,g3,g4⟩|⟨g1,g2,g3⟩
   ·rw[g2,g3];exact .inr rfl
   ·rw[if_neg (by rw[g2];decide),if_pos g2];exact .inl ⟨rfl,g3⟩
 ·rw[if_pos (by rw[h2];decide)];refine .inl ⟨?_,h3⟩;show(if bM (Z.take k) 11 o 0=4 then(5:Int)else bM (Z.take k) 11 o 0) =11;rw[h2];rfl
theorem vl (hk:k<=Z.length)(hB:Bytes Z) :∀f A o,o<=k-> ((jW (Z.take k) 11 f A o).e=11/\ (jW (Z.take k) 11 f A o).p=k)\/jW (Z.take k) 11 f A o=jW Z 4 f A o
 |0,_,_,_=> .inr rfl
 |f+1,A,o,ho=>by
  have hl: (Z.take k).length=k:=by rw[List.length_take];omega
  rcases GP (o:=o) hk with⟨h1,h2⟩|he
  ·rw[sO rfl (by rw[h1];decide) (by rw[h1];decide) (by rw[h1];decide)];exact .inl ⟨h1,h2⟩
  ·obtain⟨d,hd⟩:∃d,du Z 4 o 0=d:=⟨_,rfl⟩;have hd':=he.trans hd
   have hdo:d.o<=k:=by
    have hs:=mF (Z:=Z.take k) (E:=11) (o:=o) (err:=0) (fun z hz=>hB z (List.mem_of_mem_take hz)) (.inl rfl) (by rw[hl];exact ho);rw[hd',KA,hl]at hs;rcases hs with hs|hs
    ·exact hs.2.2.2.2.1
    ·exact hs.2.2.2.1
   by_cases h18:d.e=18
   ·rw[mG hd h18,mG hd' h18];exact Fq hk A
   by_cases h4:d.e=4
   ·rw[uh hd h4,uh hd' h4];exact .inr rfl
   by_cases h0:d.e=0
   ·by_cases hc:iu A d.x=0
    ·by_cases hx:d.x.k=1
     ·rcases zJ hk hdo d.x.s with⟨q1,q2⟩|⟨q1,q2,q3,q4,q5⟩
      ·rw[mH hd' h0 hc hx (by rw[q1];decide)];exact .inl ⟨q1,q2⟩
      ·by_cases hr:eO Z 4 d.o 0 d.x.s=0
       ·rw[pj hd h0 hc hx hr,pj hd' h0 hc hx (q1.trans hr),q3,q4];refine vl hk hB f _ _ ?_;rw[<- q4];have:=FC (Z:=Z.take k) (o:=d.o) (err:=0) (z:=d.x.s) (by rw[hl];exact hdo)
        rwa [hl]at this
       ·rw[mH hd h0 hc hx hr,mH hd' h0 hc hx (by rw[q1];exact hr),q1,q2];exact .inr rfl
     ·rw[pn hd h0 hc hx,pn hd' h0 hc hx];exact vl hk hB f _ _ hdo
    ·rw[rv hd h0 hc,rv hd' h0 hc];exact .inr rfl
   ·rw[sO hd h18 h4 h0,sO hd' h18 h4 h0];exact .inr rfl
end
theorem vy {Z:List Int}{E:Int}(hE:E=11\/E=4)(hB:Bytes Z) :∀f g A o,o<=Z.length->Z.length<o+f->Z.length<o+g->jW Z E f A o=jW Z E g A o
 |0,_,_,_,h1,h2,_=>absurd h2 (by omega)
 |_+1,0,_,_,h1,_,h3=>absurd h3 (by omega)
 |f+1,g+1,A,o,h1,h2,h3=>by
  obtain⟨d,hd⟩:∃d,du Z E o 0=d:=⟨_,rfl⟩;have hs:=mF (err:=0) hB hE h1;rw[hd]at hs;by_cases h18:d.e=18
  ·rw[mG hd h18,mG hd h18]
  by_cases h4:d.e=4
  ·rw[uh hd h4,uh hd h4]
  by_cases h0:d.e=0
  ·obtain⟨-,-,-,hlt,hle,-,-⟩:=hs.resolve_right fun c=>c.1 h0;by_cases hc:iu A d.x=0
   ·by_cases hx:d.x.k=1
    ·by_cases hr:eO Z E d.o 0 d.x.s=0
     ·rw[pj hd h0 hc hx hr,pj hd h0 hc hx hr];obtain⟨-,r2,r3,-,-⟩:=mU hE hle hr;exact vy hE hB f g _ _ r3 (by omega) (by omega)
     ·rw[mH hd h0 hc hx hr,mH hd h0 hc hx hr]
    ·rw[pn hd h0 hc hx,pn hd h0 hc hx];exact vy hE hB f g _ _ hle (by omega) (by omega)
   ·rw[rv hd h0 hc,rv hd h0 hc]
  ·rw[sO hd h18 h4 h0,sO hd h18 h4 h0]
theorem Kg {Z:List Int}{k:Nat}(hk:k<=Z.length)(hB:Bytes Z) : ((pO (Z.take k) 11).e=11/\ (pO (Z.take k) 11).p=k)\/pO (Z.take k) 11=pO Z 4:=by
 have hl: (Z.take k).length=k:=by rw[List.length_take];omega
 have e1:pO (Z.take k) 11=jW (Z.take k) 11 (Z.length+1) [] 0:=vy (.inl rfl) (fun z hz=>hB z (List.mem_of_mem_take hz)) _ _ _ _ (Nat.zero_le _) (by omega) (by rw[hl];omega);rw[e1];exact vl hk hB _ _ _ (Nat.zero_le _)
end Go.Proofs.YtcjagakckffkiaaGreatDoor.Arc
namespace Go.Proofs.YtcjagakckffkiaaGreatDoor.Arc
open Go.Lib Go.RowKit Go.Proofs.YtcjagakckffkiaaGreatDoor.Fit bL Pnm Tre Flt dO Reb
def Sm (x:Int) :Prop:=x≠4/\x≠18/\x≠11
theorem Mq (zs:List Int) :Sm (zj zs) :=by unfold zj Sm;repeat (first|decide|split)
theorem QL (t:ByteArray) :Sm (iC t) :=by unfold iC Sm;repeat (first|decide|split)
theorem PH (k:Int)(t:ByteArray) :Sm (vO k t) :=by
 unfold vO
 split
 ·exact QL _
 ·split
  ·exact Mq _
  ·unfold Sm;split<;>decide
theorem Pr (k s:Int) :Sm (Fit.pX k s) :=by unfold Fit.pX Sm;repeat (first|decide|split)
theorem Qh (e:dY) :Sm (dn e) :=by
 unfold dn
 split
 ·unfold Sm;decide
 ·split
  ·exact Mq _
  ·split
   ·unfold Sm;decide
   ·split
    ·exact PH _ _
    ·exact Pr _ _
theorem Fc (A:List Mb)(e:dY) :Sm (iu A e) :=by
 unfold iu
 split
 ·exact Qh _
 ·unfold Sm;repeat (first|decide|split)
theorem Qp {Z:List Int}{E:Int}{o:Nat}{s:Int} :eO Z E o 0 s≠4:=by
 by_cases hb:dm s
 ·rw[(lK hb).1];decide
 obtain⟨m,rfl⟩:∃m:Nat,s= (m:Int) :=⟨s.toNat,by unfold dm at hb;omega⟩;have hm:m<=1099511627776:=by unfold dm at hb;omega
 by_cases hok:dM Z o 0 (aZ m)
 ·by_cases hi:gx (bj Z o m) < (bj Z o m).length
  ·rw[(gM (E:=E) hm rfl hok hi).1];decide
  ·rw[(jN (E:=E) hm rfl hok hi).1];decide
 ·rw[(jM (E:=E) hm rfl hok).1];by_cases h4:jY Z E o 0 (aZ m) =4
  ·rw[if_pos h4];decide
  ·rw[if_neg h4];exact h4
theorem Mk {Z:List Int}(o:Nat)(s:Int) :eO Z 4 o 0 s≠11:=by
 by_cases hb:dm s
 ·rw[(lK hb).1];decide
 obtain⟨m,rfl⟩:∃m:Nat,s= (m:Int) :=⟨s.toNat,by unfold dm at hb;omega⟩;have hm:m<=1099511627776:=by unfold dm at hb;omega
 by_cases hok:dM Z o 0 (aZ m)
 ·by_cases hi:gx (bj Z o m) < (bj Z o m).length
  ·rw[(gM (E:=4) hm rfl hok hi).1];decide
  ·rw[(jN (E:=4) hm rfl hok hi).1];decide
 ·rw[(jM (E:=4) hm rfl hok).1];have h:jY Z 4 o 0 (aZ m)≠11:=by unfold jY;repeat (first|decide|split)
  by_cases h4:jY Z 4 o 0 (aZ m) =4
  ·rw[if_pos h4];decide
  ·rw[if_neg h4];exact h
def zQ (F:Int)(P ys:List Int)(er:Int) :Prop:= (er=0/\ys=P/\ (0<=F-> (P.length:Int)<=F))\/ (er=11/\0<=F/\F< (P.length:Int)/\ys=P.take F.toNat)
def tT (F:Int)(P:List Int) :Prop:=0<=F/\F< (P.length:Int)
instance (F:Int) (P:List Int) :Decidable (tT F P) :=by unfold tT;infer_instance
def Is (F:Int)(P:List Int) :Int:=if tT F P then 11 else 0
def Ik (F:Int)(P:List Int) :List Int:=if tT F P then P.take F.toNat else P
theorem zQ.nil (F:Int) :zQ F [] [] 0:= .inl ⟨rfl,rfl,fun h=>h⟩
theorem zQ.stop {F:Int}{P ys:List Int}{er:Int}(h:zQ F P ys er)(h0:er≠0)(Q:List Int) :zQ F (P++Q) ys er:=by
 rcases h with h|⟨h1,h2,h3,h4⟩
 ·exact absurd h.1 h0
 ·refine .inr ⟨h1,h2,by rw[List.length_append];omega,?_⟩;rw[h4,List.take_append_of_le_length (by omega)]
theorem zQ.zero {F:Int}{P ys:List Int}(h:zQ F P ys 0) :ys=P/\ (0<=F-> (P.length:Int)<=F) :=by
 rcases h with h|h
 ·exact h.2
 ·exact absurd h.1 (by decide)
theorem zQ.go {F:Int}{P:List Int}(h:0<=F-> (P.length:Int)<=F)(Q:List Int)(m:Nat)(hm:Q.length=m) :zQ F (P++Q) (P++Q.take (dX F P.length m)) (fv F P.length m)/\ (P++Q.take (dX F P.length m)).length=P.length+dX F P.length m:=by
 subst hm;have hle:= (KF F P.length Q.length h).1;constructor
 ·unfold dX fv;by_cases hf:0<=F/\F- (P.length:Int) <Q.length
  ·have:=h hf.1;rw[if_pos hf,if_pos hf];refine .inr ⟨rfl,hf.1,by rw[List.length_append];have:=hf.2;omega,?_⟩;rw[List.take_append,List.take_of_length_le (l:=P) (by omega)]
   congr 2
   omega
  ·rw[if_neg hf,if_neg hf];refine .inl ⟨rfl,by rw[List.take_length],fun h0=>?_⟩;rw[List.length_append];have:=h h0;omega
 ·rw[List.length_append,List.length_take];omega
theorem zQ.fin {F:Int}{P ys:List Int}{er:Int}(h:zQ F P ys er) :er=Is F P/\ys=Ik F P:=by
 unfold Is Ik;rcases h with⟨h1,h2,h3⟩|⟨h1,h2,h3,h4⟩
 ·have hn:¬tT F P:=fun c=>by have:=h3 c.1;have:=c.2;omega
  rw[if_neg hn,if_neg hn];exact⟨h1,h2⟩
 ·rw[if_pos ⟨h2,h3⟩,if_pos ⟨h2,h3⟩];exact⟨h1,h4⟩
theorem qj (P:List Int) :Is (-1) P=0/\Ik (-1) P=P:=by
 have hn:¬tT (-1) P:=fun c=>by have:=c.1;omega
 unfold Is Ik;rw[if_neg hn,if_neg hn];exact⟨rfl,rfl⟩
theorem Ow {Z:List Int}{o:Nat} : (du Z 4 o 0).e≠11:=by
 have nx:∀a,bM Z 4 a 0≠11:=fun a=>by unfold bM;repeat (first|decide|split)
 have mg:∀h rs a l p,(vM h rs a l p).e≠11:=fun h rs a l p=>by
  unfold vM
  split
  ·show(0:Int)≠11;decide
  ·show(if rs.length=0 then(6:Int)else 17)≠11
   split<;>decide
 have de:∀B,Ust.fB B≠11:=fun B=>by unfold Ust.fB;repeat (first|decide|split)
 have pr:∀zs,(bL.bh zs).2.2≠11:=fun zs=>by
  have h1:∀r,bL.dA r≠11:=fun r=>by unfold bL.dA iC sD;repeat (first|decide|split)
  have h2:∀b r,eI b r≠11:=fun b r=>by
   unfold eI
   split
   ·exact h1 r
   ·split<;>decide
  have h3:∀z,mv z≠11:=fun z=>by unfold mv;repeat (first|decide|split)
  have h4:∀f out at_,(ph f out at_ zs).2.2≠11:=by
   intro f
   induction f with
   |zero=>intro out at_;show(0:Int)≠11;decide
   |succ f ih=>
    intro out at_;unfold ph
    split
    ·show(0:Int)≠11;decide
    ·split
     ·exact h3 _
     ·split
      ·exact h2 _ _
      ·exact ih _ _
  unfold bL.bh
  split
  ·show(7:Int)≠11;decide
  ·exact h4 _ _ _
 have rd:∀a s,eO Z 4 a 0 s≠11:=fun a s=>Mk a s;unfold du
 split
 ·exact nx _
 ·unfold pg
  split
  ·show(18:Int)≠11;decide
  ·split
   ·exact de _
   ·split
    ·unfold nQ
     split
     ·show(17:Int)≠11;decide
     ·split
      ·exact rd _ _
      ·unfold CF
       split
       ·exact pr _
       ·split
        ·show(if _ then(5:Int)else _)≠11
         split
         ·decide
         ·exact nx _
        ·unfold Dc
         split
         ·exact de _
         ·exact mg _ _ _ _ _
    ·exact mg _ _ _ _ _
theorem Mz {Z:List Int}{A:List Mb}{o:Nat} : (jX Z 4 A o).e≠11:=by
 have nx:∀a,bM Z 4 a 0≠11:=fun a=>by unfold bM;repeat (first|decide|split)
 unfold jX
 split
 ·show(if bM Z 4 o 0=4 then(5:Int)else bM Z 4 o 0)≠11
  split
  ·decide
  ·exact nx _
 ·split
  ·show(18:Int)≠11;decide
  ·split
   ·show(0:Int)≠11;decide
   ·split
    ·rename_i h;exact absurd h (nx _)
    ·show(18:Int)≠11;decide
theorem Gi {Z:List Int} :∀f A o,(jW Z 4 f A o).e≠11
 |0,_,_=>by show(0:Int)≠11;decide
 |f+1,A,o=>by
  obtain⟨d,hd⟩:∃d,du Z 4 o 0=d:=⟨_,rfl⟩;have h11:=Ow (Z:=Z) (o:=o);rw[hd]at h11;by_cases h18:d.e=18
  ·rw[mG hd h18];exact Mz
  by_cases h4:d.e=4
  ·rw[uh hd h4];show(5:Int)≠11;decide
  by_cases h0:d.e=0
  ·by_cases hc:iu A d.x=0
   ·by_cases hx:d.x.k=1
    ·by_cases hr:eO Z 4 d.o 0 d.x.s=0
     ·rw[pj hd h0 hc hx hr];exact Gi f _ _
     ·rw[mH hd h0 hc hx hr];exact Mk _ _
    ·rw[pn hd h0 hc hx];exact Gi f _ _
   ·rw[rv hd h0 hc];exact(Fc _ _).2.2
  ·rw[sO hd h18 h4 h0];exact h11
theorem PQ (Z:List Int) : (pO Z 4).e≠11:=Gi _ _ _
end Go.Proofs.YtcjagakckffkiaaGreatDoor.Arc
namespace Go.Proofs.YtcjagakckffkiaaGreatDoor.Arc
open Go.Lib Go.RowKit Go.Proofs.YtcjagakckffkiaaGreatDoor.Fit bL Pnm Tre Flt dO Reb
def Qz (B0:Nat) :Prop:=∀(w:World) (lo h1 m:Nat) (Z:List Int) (E:Int) (cs:List Int) (I:List Mb->Nat->Prop),Src w lo h1 m Z E cs 0 0->lo<=w.heap.size-> (E=11\/E=4)->Bytes Z->Inv Z E I->MV B0 w->B0<=lo->Calls Tryz.prog 16 #[.pointer (some ⟨m,0,none⟩)] w fun e w'=>sL (pO Z E) e w'/\Below lo w w'
end Go.Proofs.YtcjagakckffkiaaGreatDoor.Arc
namespace Go.Proofs.YtcjagakckffkiaaGreatDoor.Arc
open Go.Lib Go.RowKit Go.Proofs.YtcjagakckffkiaaGreatDoor.Fit bL Pnm Tre Flt dO Reb
theorem AE {Z:List Int}{r:RR}(h:Told Z r) :r.p<=Z.length:=by
 rcases h with h|⟨_,_,_,_,_,h⟩
 ·exact h.2.2
 ·exact Nat.le_of_eq h
set_option maxRecDepth 100000 in
theorem Qv {B0:Nat}(HE:xo B0)(HD:xI B0)(HR:Qz B0)(a:Option Addr)(len cap:Nat)(zs:List Int)(cut:Int)(w:World)(V:MV B0 w)(hz:aB .u8 w a len cap zs)(hcut: (Lit.int .u16 cut).wf=true) :
 Calls Tryz.prog 11 #[.slice a len cap,.int .u16 cut] w fun e w'=>e= .returned (.bool true)/\Below w.heap.size w w':=by
 have HB:=ad hz.bytes;have HL:=ad hz.1;have HC:=ad hz.2.1;have HEE:=ad HE;have HDD:=ad HD;have HRR:=ad HR;have V0:=ad V;have hm:len<=maxLen:=Nat.le_trans hz.2.1 hz.2.2.1
 have HCC:Hid (0<=cut/\cut<=65535) :=by
  show _/\_;simp[Lit.wf,IntKind.min,IntKind.max,IntKind.signed,IntKind.bits]at hcut;omega
 obtain⟨ct,rfl⟩:∃ct:Nat,cut=ct:=⟨cut.toNat,by have:=HCC.out;omega⟩;have hw:wrap64 (ct:Int) = (ct:Int) :=by have:=HCC.out;unfold wrap64;omega
 clear hz HE HD HR V hcut;by_cases h3: (30000:Int) <len
 ·go_enter Tryz.func11,Tryz.ntmps11;go_wp2_with fail;refine(aX _ HEE.out HDD.out V0.out).mono ?_;rintro e w2 ⟨rfl,b2⟩;have B2:=ad b2;clear b2;go_wp2_with fail;go_ret;exact⟨rfl,B2.out⟩
 have LS:Hid (len<=30000) :=by show _<=_;omega
 obtain⟨k,hk⟩:=named (ct % (len+1));have KL:Hid (k<=len) :=by show _<=_;have:=Nat.mod_lt ct (show 0<len+1 by omega);rw[hk.out];omega
 have hrem: ((ct:Int)).tmod ((len:Int) +1) = (k:Int) :=by rw[Int.tmod_eq_emod_of_nonneg (by omega),hk.out];rfl
 have hne:¬(len:Int) +1=0:=by omega
 have hne': (((len:Int) +1) ==0) =false:=by simpa using hne
 have NK:Hid (sy (k:Int) len=k) :=by show _=_;unfold sy;rw[if_pos (by have:=KL.out;omega)];rfl
 have EK:Hid (oV (k:Int) len=11) :=by show _=_;unfold oV;rw[if_pos (by have:=KL.out;omega)]
 have IS:Hid (Inv zs 4 (fun A o=>A.length*512<=o)) :=iT (.inr rfl) (by have:=HL.out;have:=LS.out;omega);have IZ:Hid (Inv (zs.take k) 11 (fun A o=>A.length*512<=o)) :=iT (.inl rfl) (by rw[List.length_take];have:=HL.out;have:=LS.out;omega);have FA:=ad (Kg (Z:=zs) (k:=k) (by rw[HL.out];exact KL.out) HB.out.bytes);have TT:=ad (AE (vC (Z:=zs) (.inr rfl) HB.out.bytes));have TR:=ad (AE (vC (Z:=zs.take k) (E:=11) (.inl rfl) (HB.out.bytes.take k)));have T11:=ad (PQ zs);have RD:=ad (HDD.out a len cap zs w _ HB.out HL.out HC.out (by have:=LS.out;omega) IS.out V0.out);have RC:Hid (∀w2 w3 s,Src w3 w2 w3.heap.size s (zs.take k) 11 [] 0 0->w2<=w3.heap.size->MV B0 w3->B0<=w2->_) :=fun w2 w3 s h h1 h2 h3=>HRR.out w3 w2 w3.heap.size s (zs.take k) 11 [] _ h h1 (.inl rfl) (HB.out.bytes.take k) IZ.out h2 h3;obtain⟨R,hR⟩:=named (pO (zs.take k) 11);obtain⟨T,hT⟩:=named (pO zs 4);rw[<- hR.out]at RC FA TR;rw[<- hT.out]at RD FA TT T11;clear hk hR hT;obtain⟨tn,tp,te⟩:=T;obtain⟨rn,rp,re⟩:=R;have TP: (tp:Int)<=len:=by have:tp<=zs.length:=TT.out;have:=HL.out;omega
 have RP:Hid (rp<=k) :=by show _<=_;have:rp<= (zs.take k).length:=TR.out;rw[List.length_take]at this;omega
 go_enter Tryz.func11,Tryz.ntmps11;go_wp2_with fail;refine RD.out.mono ?_;rintro e w1 ⟨⟨a1,n1,c1,z1,rfl,_,_⟩,b1⟩;have B1:=ad b1;have V1:=ad (V0.out.go b1);clear b1 RD;go_wp2_with fail;refine(kX a len cap zs none 0 0 [] (k:Int) w1 (HB.out.below B1.out) HL.out HC.out (by have:=LS.out;omega) (.inl rfl) rfl (by decide)).mono ?_;rintro e w2 ⟨s,rfl,s2,b2⟩;rw[NK.out,EK.out]at s2;have RC1:=ad (RC.out _ w2 s s2 b2.size (V1.out.go b2) V1.out.s);have B2:=ad b2;clear s2 b2 RC;go_wp2_with fail;refine RC1.out.mono ?_;rintro e w3 ⟨⟨a3,n3,c3,z3,rfl,_,_⟩,b3⟩;have B3:=ad (B1.out.trans ((B2.out.trans b3).mono B1.out.size));have V3:=ad (V1.out.go (B2.out.trans b3));clear b3 RC1;by_cases h11:re=11
 ·subst h11
  obtain rfl:rp=k:=by
   rcases FA.out with h|h
   ·exact h.2
   ·exact absurd (congrArg RR.e h).symm T11.out
  go_wp2_with fail;refine(aX w3 HEE.out HDD.out V3.out).mono ?_;rintro e w4 ⟨rfl,b4⟩;have B4:=ad (B3.out.trans (b4.mono B3.out.size));clear b4;go_wp2_with fail;go_ret;exact⟨rfl,B4.out⟩
 ·have n11: (re==11) =false:=by simpa using h11
  have FE:RR.mk rn rp re=⟨tn,tp,te⟩:=FA.out.resolve_left fun h=>h11 h.1;injection FE with _ e1 e2;subst e1 e2;have RK: (rp:Int)<=k:=by have:=RP.out;omega
  clear h11;go_wp2_with fail;refine(aX w3 HEE.out HDD.out V3.out).mono ?_;rintro e w4 ⟨rfl,b4⟩;have B4:=ad (B3.out.trans (b4.mono B3.out.size));clear b4;go_wp2_with fail;go_ret;exact⟨rfl,B4.out⟩
end Go.Proofs.YtcjagakckffkiaaGreatDoor.Arc
namespace Go.Proofs.YtcjagakckffkiaaGreatDoor
open Go.RowKit
section
variable {P:Program} {w:World} {ops:Array Oper} {rest:List Oper} {o:Oper} {a:Act} {Q:Exit->Act->World->Prop}
theorem oB (hgd:o.guard=none)(T:TypeId)(ho:o.op= .alloc T)(v:Value)(hv:v.oneCell'=true)(hz: (P.info? T).map (·.zero) =some (some v))
 (K:∀w',ak w' w.heap.size T [v]->Below w.heap.size w w'->wpList P ops Q rest (a.put o.dst (.pointer (some ⟨w.heap.size,0,none⟩))) w') :wpList P ops Q (o::rest) a w:=by
 refine wpList_plain hgd fun K' hK=>?_;have hc:v.cells= #[v] :=by cases v<;>first|rfl| (simp[Value.oneCell']at hv)
 cases hq:P.info? T with
 |none=>simp[hq]at hz
 |some i=>
  simp[hq]at hz;unfold Oper.wp;simp[execOp,ho,Instr.alloc,zeroValue,typeInfo,hq,hz,newVar,newRow,Result.andThen,hc];exact hK _ _ (K _ (heap_alloc_new w _) (aF.alloc ah _))
theorem rU (hgd:o.guard=none)(T:TypeId)(x:Operand)(ho:o.op= .box T x)(v:Value)(hv:v.oneCell'=true)(hx:a.eval x=v)
 (K:∀w',ak w' w.heap.size T [v]->Below w.heap.size w w'->wpList P ops Q rest (a.put o.dst (.pointer (some ⟨w.heap.size,0,none⟩))) w') :wpList P ops Q (o::rest) a w:=by
 refine wpList_plain hgd fun K' hK=>?_;have hc:v.cells= #[v] :=by cases v<;>first|rfl| (simp[Value.oneCell']at hv)
 unfold Oper.wp;simp[execOp,ho,hx,Instr.box,newVar,newRow,Result.andThen,hc];exact hK _ _ (K _ (heap_alloc_new w _) (aF.alloc ah _))
end
end Go.Proofs.YtcjagakckffkiaaGreatDoor
