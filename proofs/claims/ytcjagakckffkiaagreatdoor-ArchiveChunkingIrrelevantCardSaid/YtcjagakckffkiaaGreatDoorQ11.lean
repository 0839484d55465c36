import Derived.Test.YtcjagakckffkiaaGreatDoorQ6
import Derived.Test.YtcjagakckffkiaaGreatDoorQ10
import Derived.Test.YtcjagakckffkiaaGreatDoorQ5
import Derived.Test.YtcjagakckffkiaaGreatDoorQ1
import Derived.Test.YtcjagakckffkiaaGreatDoorQ8
import Derived.Test.YtcjagakckffkiaaGreatDoorQ4
import Derived.Test.YtcjagakckffkiaaGreatDoorQ9
import Derived.Deep.RegionHeld3
set_option maxHeartbeats 16000000
namespace Go.Proofs.YtcjagakckffkiaaGreatDoor.Arc
open Go.Lib Go.RowKit Go.Proofs.YtcjagakckffkiaaGreatDoor.Fit bL Pnm Tre Flt dO Reb
def kR (x:Mb) :List Int:=eW x.e++ (x.d++ao (bU x.d.length))
def cq (A:List Mb) :List Int:=A.flatMap kR
def cy (A:List Mb) :List Int:=cq A++ao 1024
theorem gN (A:List Mb)(x:Mb) :cq (A++ [x]) =cq A++kR x:=by unfold cq;simp
theorem vb (A B:List Mb) :cq (A++B) =cq A++cq B:=by unfold cq;simp
theorem yj {A:List Mb}{i:Nat}{x:Mb}(h:A[i]? =some x) :cq A=cq (A.take i) ++ (kR x++cq (A.drop (i+1))) :=by
 obtain⟨hi,hx⟩:=List.getElem?_eq_some_iff.mp h
 conv=>lhs;rw[<- List.take_append_drop i A]
 rw[vb,List.drop_eq_getElem_cons hi,hx];unfold cq;rw[List.flatMap_cons]
theorem fa {A:List Mb}{i:Nat}{x:Mb}(h:A[i]? =some x) :A.take (i+1) =A.take i++ [x] :=by rw[List.take_add_one,h];rfl
structure RR where
 n:List Nd
 p:Nat
 e:Int
open Classical in
noncomputable def jX (Z:List Int)(E:Int)(A:List Mb)(o:Nat) :RR:=
 if bM Z E o 0≠0 then⟨[],fu Z o 0,if bM Z E o 0=4 then 5 else bM Z E o 0⟩
 else if¬dW ((Z.drop o).take 512)then⟨[],o,18⟩
 else if bM Z E (o+512) 0=4 then⟨canon (aV A),o+512,0⟩
 else if bM Z E (o+512) 0=11 then⟨[],fu Z (o+512) 0,11⟩
 else⟨[],o+512,18⟩
noncomputable def jW (Z:List Int)(E:Int) :Nat->List Mb->Nat->RR
 |0,_,_=>⟨[],0,0⟩
 |f+1,A,o=>
  if(du Z E o 0).e=18 then jX Z E A (du Z E o 0).o
  else if(du Z E o 0).e=4 then⟨[],(du Z E o 0).p,5⟩
  else if(du Z E o 0).e≠0 then⟨[],(du Z E o 0).p,(du Z E o 0).e⟩
  else if iu A (du Z E o 0).x≠0 then⟨[],(du Z E o 0).p,iu A (du Z E o 0).x⟩
  else if(du Z E o 0).x.k=1 then
   if eO Z E (du Z E o 0).o 0 (du Z E o 0).x.s≠0 then⟨[],mw Z (du Z E o 0).o 0 (du Z E o 0).x.s,eO Z E (du Z E o 0).o 0 (du Z E o 0).x.s⟩
   else jW Z E f (A++ [⟨(du Z E o 0).x,gw Z (du Z E o 0).o 0 (du Z E o 0).x.s⟩]) (jQ Z (du Z E o 0).o 0 (du Z E o 0).x.s)
  else jW Z E f (A++ [⟨(du Z E o 0).x,[]⟩]) (du Z E o 0).o
noncomputable def pO (Z:List Int)(E:Int) :RR:=jW Z E (Z.length+1) [] 0
section
variable {Z:List Int} {E:Int} {f:Nat} {A:List Mb} {o:Nat} {d:DR}
theorem mG (hd:du Z E o 0=d)(h:d.e=18) :jW Z E (f+1) A o=jX Z E A d.o:=by subst hd;rw[jW,if_pos h]
theorem uh (hd:du Z E o 0=d)(h:d.e=4) :jW Z E (f+1) A o=⟨[],d.p,5⟩:=by subst hd;rw[jW,if_neg (by rw[h];decide),if_pos h]
theorem sO (hd:du Z E o 0=d)(h1:d.e≠18)(h2:d.e≠4)(h3:d.e≠0) :jW Z E (f+1) A o=⟨[],d.p,d.e⟩:=by subst hd;rw[jW,if_neg h1,if_neg h2,if_pos h3]
theorem rv (hd:du Z E o 0=d)(h:d.e=0)(hc:iu A d.x≠0) :jW Z E (f+1) A o=⟨[],d.p,iu A d.x⟩:=by
 subst hd;rw[jW,if_neg (by rw[h];decide),if_neg (by rw[h];decide),if_neg (by rw[h];decide),if_pos hc]
theorem mH (hd:du Z E o 0=d)(h:d.e=0)(hc:iu A d.x=0)(hk:d.x.k=1)(hr:eO Z E d.o 0 d.x.s≠0) :jW Z E (f+1) A o=⟨[],mw Z d.o 0 d.x.s,eO Z E d.o 0 d.x.s⟩:=by
 subst hd;rw[jW,if_neg (by rw[h];decide),if_neg (by rw[h];decide),if_neg (by rw[h];decide),if_neg (by rw[hc];decide),if_pos hk,if_pos hr]
theorem pj (hd:du Z E o 0=d)(h:d.e=0)(hc:iu A d.x=0)(hk:d.x.k=1)(hr:eO Z E d.o 0 d.x.s=0) :jW Z E (f+1) A o=jW Z E f (A++ [⟨d.x,gw Z d.o 0 d.x.s⟩]) (jQ Z d.o 0 d.x.s) :=by
 subst hd;rw[jW,if_neg (by rw[h];decide),if_neg (by rw[h];decide),if_neg (by rw[h];decide),if_neg (by rw[hc];decide),if_pos hk,if_neg (by rw[hr];decide)]
theorem pn (hd:du Z E o 0=d)(h:d.e=0)(hc:iu A d.x=0)(hk:d.x.k≠1) :jW Z E (f+1) A o=jW Z E f (A++ [⟨d.x,[]⟩]) d.o:=by
 subst hd;rw[jW,if_neg (by rw[h];decide),if_neg (by rw[h];decide),if_neg (by rw[h];decide),if_neg (by rw[hc];decide),if_neg hk]
end
theorem QG {Z:List Int}{E:Int}{o:Nat}(hE:E=11\/E=4)(h:bM Z E o 0=0) :o+512<=Z.length:=by
 apply Decidable.byContradiction;intro hc;rw[(eR hc).2.1]at h
 split at h
 ·cases h
 ·rcases hE with rfl|rfl<;>cases h
theorem Oi (zs:List Int) : (bL.bh zs).2.2≠18:=by
 have h1:∀r,bL.dA r≠18:=fun r=>by unfold bL.dA iC sD;repeat (first|decide|split)
 have h2:∀b r,eI b r≠18:=fun b r=>by
  unfold eI
  split
  ·exact h1 r
  ·split<;>decide
 have h3:∀z,mv z≠18:=fun z=>by unfold mv;repeat (first|decide|split)
 have h4:∀f out at_,(ph f out at_ zs).2.2≠18:=by
  intro f
  induction f with
  |zero=>intro out at_;show(0:Int)≠18;decide
  |succ f ih=>
   intro out at_;unfold ph
   split
   ·show(0:Int)≠18;decide
   ·split
    ·exact h3 _
    ·split
     ·exact h2 _ _
     ·exact ih _ _
 unfold bL.bh
 split
 ·show(7:Int)≠18;decide
 ·exact h4 _ _ _
theorem Ly (B:List Int) :Ust.fB B≠18:=by unfold Ust.fB;repeat (first|decide|split)
theorem Mh {Z:List Int}{E:Int}{o:Nat}(hE:E=11\/E=4) :bM Z E o 0≠18:=by
 unfold bM;rw[if_neg (by decide)];rcases hE with rfl|rfl<;>repeat (first|decide|split)
theorem Me {Z:List Int}{E:Int}{o:Nat}{s:Int}(hE:E=11\/E=4) :eO Z E o 0 s≠18:=by
 unfold eO jY;rcases hE with rfl|rfl<;>simp only[ne_eq,not_true_eq_false,if_false] <;>repeat (first|decide|split)
theorem Lz (h:Hd)(rs:List Rec)(o l p:Nat) : (vM h rs o l p).e≠18:=by
 unfold vM
 split
 ·show(0:Int)≠18;decide
 ·show(if rs.length=0 then(6:Int)else 17)≠18
  split<;>decide
theorem zr {Z:List Int}{E:Int}{o:Nat}(hE:E=11\/E=4)(h: (du Z E o 0).e=18) :o+512<=Z.length/\dW ((Z.drop o).take 512)/\ (du Z E o 0).o=o+512:=by
 unfold du at h⊢;by_cases hn:bM Z E o 0=0
 ·rw[if_neg (by rw[hn];decide)]at h⊢;have hl:=QG hE hn;unfold pg at h⊢;by_cases hz:dW ((Z.drop o).take 512)
  ·rw[if_pos hz];exact⟨hl,hz,rfl⟩
  ·exfalso;rw[if_neg hz]at h;by_cases hd:Ust.fB ((Z.drop o).take 512)≠0
   ·rw[if_pos hd]at h;exact Ly _ h
   ·rw[if_neg hd]at h;by_cases hT:Ust.dT ((Z.drop o).take 512) =120
    ·rw[if_pos hT]at h;unfold nQ at h
     split at h
     ·exact absurd h (by show(17:Int)≠18;decide)
     ·split at h
      ·exact Me hE h
      ·unfold CF at h
       split at h
       ·exact Oi _ h
       ·split at h
        ·refine absurd h ?_;show(if _ then(5:Int)else _)≠18
         split
         ·decide
         ·exact Mh hE
        ·unfold Dc at h
         split at h
         ·exact Ly _ h
         ·exact Lz _ _ _ _ _ h
    ·rw[if_neg hT]at h;exact Lz _ _ _ _ _ h
 ·rw[if_pos hn]at h;exact absurd h (Mh hE)
theorem ix {e:dY}(h:dn e=0) : (e.k≠1->e.s=0)/\0<=e.s/\e.s<=1099511627776:=by
 have hs:= (dB.1 h).sz;unfold Fit.pX at hs;by_cases hk:e.k=1
 ·rw[if_pos hk]at hs;by_cases hb:e.s<0\/1099511627776<e.s
  ·rw[if_pos hb]at hs;cases hs
  ·exact⟨fun c=>absurd hk c,by omega,by omega⟩
 ·rw[if_neg hk]at hs;by_cases hb:e.s=0
  ·exact⟨fun _=>hb,by omega,by omega⟩
  ·rw[if_neg hb]at hs;cases hs
theorem mU {Z:List Int}{E:Int}{o:Nat}{s:Int}(hE:E=11\/E=4)(ho:o<=Z.length)(h:eO Z E o 0 s=0) :
 0<=s/\o<=jQ Z o 0 s/\jQ Z o 0 s<=Z.length/\ ((gw Z o 0 s).length:Int) =s/\ (Z.drop o).take (jQ Z o 0 s- o) =gw Z o 0 s++ao (bU (gw Z o 0 s).length) :=by
 by_cases hb:dm s
 ·rw[(lK hb).1]at h;cases h
 obtain⟨m,rfl⟩:∃m:Nat,s= (m:Int) :=⟨s.toNat,by unfold dm at hb;omega⟩;have hm:m<=1099511627776:=by unfold dm at hb;omega
 by_cases hok:dM Z o 0 (aZ m)
 ·by_cases hi:gx (bj Z o m) < (bj Z o m).length
  ·rw[(gM (E:=E) hm rfl hok hi).1]at h;cases h
  ·obtain⟨-,-,e3,e4,-⟩:=jN (E:=E) hm rfl hok hi;rw[e3,e4]
   have hl:o+512*aZ m<=Z.length:=by
    rcases hok with q|q
    ·rw[q];omega
    ·exact q.2
   have hb:=ny m;have hd: ((Z.drop o).take m).length=m:=by rw[List.length_take,List.length_drop];omega
   have hz:=Gy hi;obtain⟨l1,l2⟩:=iS hok;refine⟨by omega,by omega,hl,by rw[hd],?_⟩;rw[hd,Nat.add_sub_cancel_left];have hp:=dZ m;have e1: (Z.drop o).take (512*aZ m) = ((Z.drop o).take (512*aZ m)).take m++bj Z o m:=by unfold bj;rw[List.take_append_drop]
   rw[e1,hz,List.take_take,Nat.min_eq_left hb,l1]
   congr 2
   omega
 ·rw[(jM (E:=E) hm rfl hok).1]at h;have:=ry hE hok;by_cases h4:jY Z E o 0 (aZ m) =4
  ·rw[if_pos h4]at h;cases h
  ·rw[if_neg h4]at h;exact absurd h this
theorem OT {Z:List Int}{o:Nat}{s:Int}(ho:o<=Z.length) :mw Z o 0 s<=Z.length:=by
 unfold mw
 split
 ·exact ho
 ·split
  ·rename_i h;obtain⟨l1,-⟩:=iS h.1;have h2:=h.2;rcases h.1 with q|q
   ·rw[q]at l1;omega
   ·have:=q.2;omega
  ·exact yJ ho
def Told (Z:List Int)(r:RR) :Prop:= (r.e≠0/\r.n= []/\r.p<=Z.length)\/ (r.e=0/\∃A,Gd A/\Z=cy A/\r.n=canon (aV A)/\r.p=Z.length)
theorem xx {B:List Int}(h:dW B) :B=ao B.length:=by
 refine List.ext_getElem? fun i=>?_;by_cases hi:i<B.length
 ·have:=h B[i] (List.getElem_mem hi);rw[List.getElem?_eq_getElem hi,this];unfold ao;rw[List.getElem?_replicate,if_pos hi]
 ·rw[List.getElem?_eq_none (by omega),List.getElem?_eq_none (by rw[al];omega)]
theorem rl (n:Nat) :dW (ao n) :=fun z hz=>by unfold ao at hz;exact(List.mem_replicate.mp hz).2
theorem dK (a b:Nat) :ao (a+b) =ao a++ao b:=by unfold ao;exact(List.replicate_append_replicate ..).symm
theorem lg {Z P:List Int}{o o':Nat}(h:Z.take o=P)(ho:o<=o') :Z.take o'=P++ (Z.drop o).take (o'- o) :=by
 conv=>lhs;rw[show o'=o+ (o'- o) by omega]
 rw[List.take_add,h]
theorem Gf {Z:List Int}{E:Int}{A:List Mb}{o:Nat}(hE:E=11\/E=4)(hA:Gd A)(ho:o<=Z.length)(hp:Z.take o=cq A++ao 512) :Told Z (jX Z E A o) :=by
 unfold jX;by_cases h1:bM Z E o 0=0
 ·rw[if_neg (by rw[h1];decide)];have hl:=QG hE h1;by_cases h2:dW ((Z.drop o).take 512)
  ·rw[if_neg (fun c=>c h2)];by_cases h3:bM Z E (o+512) 0=4
   ·rw[if_pos h3];unfold bM at h3;rw[if_neg (by decide)]at h3;by_cases hc:o+512+512<=Z.length
    ·rw[if_pos hc]at h3;cases h3
    ·rw[if_neg hc]at h3;by_cases hd:E=4/\o+512<Z.length
     ·rw[if_pos hd]at h3;cases h3
     ·rw[if_neg hd]at h3;have hz:Z.length=o+512:=by have:¬o+512<Z.length:=fun c=>hd ⟨h3,c⟩;omega
      refine .inr ⟨rfl,A,hA,?_,rfl,by show o+512=_;exact hz.symm⟩;have e1:=xx h2;have e2: ((Z.drop o).take 512).length=512:=by rw[List.length_take,List.length_drop];omega
      rw[e2]at e1;have e3:=lg hp (show o<=o+512 by omega);rw[Nat.add_sub_cancel_left,e1,<- hz,List.take_length]at e3;rw[e3];unfold cy;rw[List.append_assoc,<- dK]
   ·rw[if_neg h3];by_cases h4:bM Z E (o+512) 0=11
    ·rw[if_pos h4];refine .inl ⟨by show(11:Int)≠0;decide,rfl,?_⟩;show fu Z (o+512) 0<=Z.length;exact nY hl
    ·rw[if_neg h4];refine .inl ⟨by show(18:Int)≠0;decide,rfl,?_⟩;exact hl
  ·rw[if_pos h2];exact .inl ⟨by show(18:Int)≠0;decide,rfl,ho⟩
 ·rw[if_pos h1];refine .inl ⟨?_,rfl,(show fu Z o 0<=Z.length from nY ho)⟩;show(if bM Z E o 0=4 then(5:Int)else bM Z E o 0)≠0
  split
  ·decide
  ·exact h1
theorem Dm {A:List Mb}{e:dY}(h:iu A e=0)(hk:e.k≠1) :As A ⟨e,[]⟩=0/\kR ⟨e,[]⟩=eW e:=by
 have h0:= (fc.mp h).1;refine⟨fU.mpr ⟨h,?_⟩,?_⟩
 ·rw[(ix h0).1 hk];rfl
 ·show eW e++ ([] ++ao (bU 0)) =eW e;rw[show ao (bU 0) = []from rfl,List.append_nil,List.append_nil]
theorem vw {Z:List Int}{E:Int}(hE:E=11\/E=4)(hB:Bytes Z) :∀f A o,Gd A->o<=Z.length->Z.take o=cq A->Z.length<o+f->Told Z (jW Z E f A o)
 |0,A,o,_,ho,_,hf=>absurd hf (by omega)
 |f+1,A,o,hA,ho,hp,hf=>by
  obtain⟨d,hd⟩:∃d,du Z E o 0=d:=⟨_,rfl⟩;have hs:=mF (err:=0) hB hE ho;rw[hd]at hs;by_cases h18:d.e=18
  ·rw[mG hd h18];obtain⟨h1,h2,h3⟩:=zr hE (by rw[hd];exact h18);rw[hd]at h3;rw[h3];refine Gf hE hA h1 ?_;have e1:=xx h2;have e2: ((Z.drop o).take 512).length=512:=by rw[List.length_take,List.length_drop];omega
   rw[e2]at e1;have e3:=lg hp (show o<=o+512 by omega)
   rwa [Nat.add_sub_cancel_left,e1]at e3
  by_cases h4:d.e=4
  ·rw[uh hd h4];rcases hs with hs|hs
   ·rw[hs.1]at h4;cases h4
   ·exact .inl ⟨by show(5:Int)≠0;decide,rfl,hs.2.2.1⟩
  by_cases h0:d.e=0
  ·obtain⟨-,hck,hdp,hlt,hle,-,hen⟩:=hs.resolve_right fun c=>c.1 h0;have hto:=lg hp (Nat.le_of_lt hlt);rw[hen]at hto;by_cases hc:iu A d.x=0
   ·by_cases hk:d.x.k=1
    ·by_cases hr:eO Z E d.o 0 d.x.s=0
     ·rw[pj hd h0 hc hk hr];obtain⟨r1,r2,r3,r4,r5⟩:=mU hE hle hr;refine vw hE hB f _ _ (mO hA (fU.mpr ⟨hc,r4⟩)) r3 ?_ (by omega);have:=lg hto r2;rw[r5]at this;rw[this,gN,List.append_assoc];rfl
     ·rw[mH hd h0 hc hk hr];exact .inl ⟨hr,rfl,OT hle⟩
    ·rw[pn hd h0 hc hk];obtain⟨a1,a2⟩:=Dm hc hk;refine vw hE hB f _ _ (mO hA a1) hle ?_ (by omega);rw[hto,gN,a2]
   ·rw[rv hd h0 hc];exact .inl ⟨hc,rfl,by show d.p<=_;rw[hdp];exact ho⟩
  ·rw[sO hd h18 h4 h0];rcases hs with hs|hs
   ·exact absurd hs.1 h0
   ·exact .inl ⟨h0,rfl,hs.2.2.1⟩
theorem vC {Z:List Int}{E:Int}(hE:E=11\/E=4)(hB:Bytes Z) :Told Z (pO Z E) :=vw hE hB _ _ _ uA (Nat.zero_le _) rfl (by omega)
end Go.Proofs.YtcjagakckffkiaaGreatDoor.Arc
namespace Go.Proofs.YtcjagakckffkiaaGreatDoor.Ust
open Oct Cst jC
def dH (zs:List Int) :List Go.Value:=if fB zs=0 then bA (dT zs) (oN zs) (og zs) (oP zs) (pT zs) (pS zs)else cr
theorem EW {zs:List Int}(h:zs.length≠512) :fB zs=2/\dH zs=cr:=by
 have e:fB zs=2:=by unfold fB;rw[if_pos h]
 exact⟨e,by unfold dH;rw[if_neg (by rw[e];decide)]⟩
theorem En {zs:List Int}(h:zs.length=512)(hv:¬zs=cu zs) :fB zs=9/\dH zs=cr:=by
 have e:fB zs=9:=by unfold fB;rw[if_neg (by simp[h]),if_pos hv]
 exact⟨e,by unfold dH;rw[if_neg (by rw[e];decide)]⟩
theorem zV {zs:List Int}(h:zs.length=512)(hv:zs=cu zs)(hk:¬known (dT zs)) :fB zs=8/\dH zs=cr:=by
 have e:fB zs=8:=by unfold fB;rw[if_neg (by simp[h]),if_neg (not_not_intro hv),if_pos hk]
 exact⟨e,by unfold dH;rw[if_neg (by rw[e];decide)]⟩
theorem yQ {zs:List Int}(h:zs.length=512)(hv:zs=cu zs)(hk:known (dT zs))(ho:¬Fo zs) :fB zs=6/\dH zs=cr:=by
 have e:fB zs=6:=by unfold fB;rw[if_neg (by simp[h]),if_neg (not_not_intro hv),if_neg (not_not_intro hk),if_neg ho]
 exact⟨e,by unfold dH;rw[if_neg (by rw[e];decide)]⟩
theorem qc {zs:List Int}(h:zs.length=512)(hv:zs=cu zs)(hk:known (dT zs))(ho:Fo zs) :fB zs=0/\dH zs=bA (dT zs) (oN zs) (og zs) (oP zs) (pT zs) (pS zs) :=by
 have e:fB zs=0:=by unfold fB;rw[if_neg (by simp[h]),if_neg (not_not_intro hv),if_neg (not_not_intro hk),if_pos ho]
 exact⟨e,by unfold dH;rw[if_pos e]⟩
end Go.Proofs.YtcjagakckffkiaaGreatDoor.Ust
namespace Go.Proofs.YtcjagakckffkiaaGreatDoor.Fit
open Go.RowKit bL Pnm
theorem ea {w w':World}{base n size g:Nat}{e:TypeId}{v:Value}{xs:List Value}(h:w.ownsRow base e size v n xs)(t:dp w w' g)(hb:g<base) :w'.ownsRow base e size v n xs:=by
 obtain⟨h1,h2⟩:=h;refine⟨h1,?_⟩;rcases h2 with h2|⟨g',cap',cur,hv,hb',hh,r⟩
 ·exact Or.inl h2
 ·exact Or.inr ⟨g',cap',cur,hv,hb',by rw[t.other (by omega)];exact hh,r⟩
abbrev u4 (a b c d:Int) :List Value:= [.int .u8 a,.int .u8 b,.int .u8 c,.int .u8 d]
section
variable {P:Program} {w:World} {ops:Array Oper} {rest:List Oper} {o:Oper} {a:Act} {Q:Exit->Act->World->Prop}
end
end Go.Proofs.YtcjagakckffkiaaGreatDoor.Fit
namespace Go.Proofs.YtcjagakckffkiaaGreatDoor.Fit
open Go.RowKit bL Pnm
set_option maxRecDepth 100000 in
theorem Jp (k:Int)(p:ByteArray)(m:Int)(t:ByteArray)(s:Int)(w:World)(T:Int)(PF NM SZ LK:ByteArray)(pb:Bool)(S':Int)(L:List Rec)(k0:0<=k)(k4:k<4)
 (KG:Hid (∀w',Below w.heap.size w w'->w'.cell? ⟨0,k.toNat,none⟩=some (.int .u8 T)))
 (C1:Hid (∀w',Below w.heap.size w w'->Calls Tryz.prog 86 #[.agg (aR k p m t s).toArray] w' fun e w''=>e= .returned (.int .i64 0)/\Below w'.heap.size w' w''))
 (C2:Hid (∀w',Calls Tryz.prog 146 #[.string p] w' fun e w''=>e= .returned (.tuple #[.string PF,.string NM,.bool pb])/\Below w'.heap.size w' w''))
 (C3:Hid (∀w',Below w.heap.size w w'->Calls Tryz.prog 147 #[.int .i64 s,.int .i64 10] w' fun e w''=>e= .returned (.string SZ)/\Below w'.heap.size w' w''))
 (hN:Hid (pb=false->NM=emp/\PF=emp))(hLK:Hid (LK=if t.size<=100 then t else emp))(hS':Hid (S'=if s<=8589934591 then s else 0))
 (hL:Hid (L= (if t.size<=100 then []else [(aQ,t)]) ++ ((if pb=true then []else [(aM,p)]) ++ (if s<=8589934591 then []else [(aS,SZ)])))) :
 Calls Tryz.prog 99 #[.agg (aR k p m t s).toArray] w (qN T NM PF LK m S' L 0 w) :=by
 have HO:=ad mJ;have EO:=ad Bt;have HZ:=ad BU;have S1:=ad QO;have S6:=ad Qe;obtain⟨i0,hI⟩:=Pv;have hJ:=ad PX;have HU:=ad Tryz.underlying133;go_enter Tryz.func99,Tryz.ntmps99;go_wp2_with (first| (refine aj rfl 68 _ rfl (aR k p m t s) rfl ?_;intro w1 g1 b1;have H1:=ad g1;have B1:=ad b1;clear g1 b1) | (refine ag rfl 130 rfl Ust.cr HZ.out ?_;intro w2 g2 b2;have R2:=ad g2;have E2:=ad (H1.out.below b2 H1.out.lt);have B2:=ad (ar B1.out b2);have c0:=E2.out.get 0 rfl;have c1:=E2.out.get 1 rfl;have c2:=E2.out.get 2 rfl;have c3:=E2.out.get 3 rfl;have c4:=E2.out.get 4 rfl;clear g2 b2));refine(C1.out w2 B2.out).mono ?_;rintro e w3 ⟨rfl,b3⟩;have E3:=ad (E2.out.below b3 E2.out.lt);have R3:=ad (R2.out.below b3 R2.out.lt);have B3:=ad (ar B2.out b3);have N1:Hid (w.heap.size<w1.heap.size) :=H1.out.lt;have N2:Hid (w1.heap.size<w3.heap.size) :=R3.out.lt;clear b3 c0 c1 c2 c3 c4;have KS:Hid (∀w',Below w3.heap.size w3 w'-> (fun w':World=>w'.cell? ⟨w.heap.size,0,none⟩=some (.int .i64 k)/\w'.cell? ⟨w.heap.size,2,none⟩=some (.int .i64 m)/\w'.cell? ⟨0,k.toNat,none⟩=some (.int .u8 T)) w') :=fun w' hb=>⟨(E3.out.below hb E3.out.lt).get 0 rfl,(E3.out.below hb E3.out.lt).get 2 rfl,KG.out w' (ar B3.out hb)⟩;go_wp2_with fail;refine wp_region_held_drew (S:= (fun w':World=>w'.cell? ⟨w.heap.size,0,none⟩=some (.int .i64 k)/\w'.cell? ⟨w.heap.size,2,none⟩=some (.int .i64 m)/\w'.cell? ⟨0,k.toNat,none⟩=some (.int .u8 T))) (by kernel_rfl) (KS.out _ aF.drew) (fun hHeld=>?_);refine aJ 0 (h:=aJ 1 (h:=aJ 2 (h:=aJ 3 (h:=?_))));simp only[Act.put,bB,bC,bD];refine aJ 4 (h:=aJ 5 (h:=aJ 6 (h:=?_)));simp only[Act.put,bB,bC,bD];refine rd 7 fun K hK=>?_;refine cT rfl 130 rfl Ust.cr HZ.out ?_;intro w4 g4 b4;have R4:=ad g4;have A4:=ad b4;clear g4 b4;have D4:Hid (Below w3.heap.size w3 w4) :=aF.drew.trans A4.out;refine hK.out _ _ (KS.out _ D4.out) (fun hHeld=>?_);clear hK K
 (try simp only[Act.put,bB,bC,bD])
 refine rd 8 fun K hK=>?_;refine cR rfl 130 (.tmp 6) (.tmp 23) rfl w3.drew.heap.size rfl (Ust.bA T emp emp emp m 0) Ust.cr rfl 130 R4.out HO.out.2 rfl (aY _ _ _ _ _ _) ?_;intro w5 g5 t5;have R5:=ad g5;have T5:=ad t5;clear g5 t5;refine hK.out _ _ (KS.out _ (D4.out.trans (T5.out.below ah))) (fun hHeld=>?_);clear hK K
 (try simp only[Act.put])
 refine wpAnyH_done (by kernel_rfl) ?_ _;have D5:Hid (Below w3.heap.size w3 w5) :=D4.out.trans (T5.out.below ah);have N3:Hid (w3.heap.size<=w3.heap.size) :=ah;have X5:Hid (ak w5 w3.heap.size 130 (Ust.bA T emp emp emp m 0)) :=R5.out;have E5:=ad (E3.out.below D5.out E3.out.lt);have Q5:=ad (R3.out.below D5.out R3.out.lt);have B5:=ad (ar B3.out D5.out);have LB:Hid (w.heap.size<w3.heap.size/\w1.heap.size<w3.heap.size) :=⟨by have:=N1.out;have:=N2.out;have:=N3.out;omega,by have:=N2.out;have:=N3.out;omega⟩;have c1:=E5.out.get 1 rfl;have c3:=E5.out.get 3 rfl;have c4:=E5.out.get 4 rfl;by_cases ht: (t.size:Int)<=100
 ·have htn:t.size<=100:=by omega
  have eLK:Hid (LK=t) :=by show _=_;rw[hLK.out,if_pos htn]
  go_wp2_with (first| (refine aw rfl 9 _ _ rfl w3.heap.size 3 rfl (.string t) rfl rfl S1.out 130 _ X5.out (by show 3<6;decide) ?_;intro w6 g6 t6;have X6:Hid (ak w6 w3.heap.size 130 (Ust.bA T emp emp t m 0)) :=g6;have E6:=ad (E5.out.aK t6 (Nat.ne_of_lt LB.out.1));have Q6:=ad (Q5.out.aK t6 (Nat.ne_of_lt LB.out.2));have B6:=ad (B5.out.trans (t6.below (Nat.le_of_lt LB.out.1)));clear g6 t6 c1 c3 c4;have c1:=E6.out.get 1 rfl;have c3:=E6.out.get 3 rfl;have c4:=E6.out.get 4 rfl));refine(C2.out w6).mono ?_;rintro e w7 ⟨rfl,b7⟩;have E7:=ad (E6.out.below b7 E6.out.lt);have Q7:=ad (Q6.out.below b7 Q6.out.lt);have X7:=ad (X6.out.below b7 X6.out.lt);have B7:=ad (ar B6.out b7);clear b7 c1 c3 c4;have c1:=E7.out.get 1 rfl;have c3:=E7.out.get 3 rfl;have c4:=E7.out.get 4 rfl
  cases pb with
  |true=>
   by_cases hs:s<=8589934591
   ·have eS:Hid (S'=s) :=by show _=_;rw[hS'.out,if_pos hs]
    have eL:Hid (L= []) :=by show _=_;rw[hL.out];simp[htn,hs]
    go_wp2_with (first| (refine aw rfl 9 _ _ rfl w3.heap.size 2 rfl (.string PF) rfl rfl S1.out 130 _ X7.out (by show 2<6;decide) ?_;intro w8 g8 t8;have X8:Hid (ak w8 w3.heap.size 130 (Ust.bA T emp PF t m 0)) :=g8;have E8:=ad (E7.out.aK t8 (Nat.ne_of_lt LB.out.1));have Q8:=ad (Q7.out.aK t8 (Nat.ne_of_lt LB.out.2));have B8:=ad (B7.out.trans (t8.below (Nat.le_of_lt LB.out.1)));clear g8 t8 c1 c3 c4;have c1:=E8.out.get 1 rfl;have c3:=E8.out.get 3 rfl;have c4:=E8.out.get 4 rfl) | (refine aw rfl 9 _ _ rfl w3.heap.size 1 rfl (.string NM) rfl rfl S1.out 130 _ X8.out (by show 1<6;decide) ?_;intro w9 g9 t9;have X9:Hid (ak w9 w3.heap.size 130 (Ust.bA T NM PF t m 0)) :=g9;have E9:=ad (E8.out.aK t9 (Nat.ne_of_lt LB.out.1));have Q9:=ad (Q8.out.aK t9 (Nat.ne_of_lt LB.out.2));have B9:=ad (B8.out.trans (t9.below (Nat.le_of_lt LB.out.1)));clear g9 t9 c1 c3 c4;have c1:=E9.out.get 1 rfl;have c3:=E9.out.get 3 rfl;have c4:=E9.out.get 4 rfl) | (refine aw rfl 2 _ _ rfl w3.heap.size 5 rfl (.int .i64 s) rfl rfl S6.out 130 _ X9.out (by show 5<6;decide) ?_;intro w10 g10 t10;have X10:Hid (ak w10 w3.heap.size 130 (Ust.bA T NM PF t m s)) :=g10;have E10:=ad (E9.out.aK t10 (Nat.ne_of_lt LB.out.1));have Q10:=ad (Q9.out.aK t10 (Nat.ne_of_lt LB.out.2));have B10:=ad (B9.out.trans (t10.below (Nat.le_of_lt LB.out.1)));clear g10 t10 c1 c3 c4;have c1:=E10.out.get 1 rfl;have c3:=E10.out.get 3 rfl;have c4:=E10.out.get 4 rfl) | (refine aG rfl 130 6 HO.out _ rfl w3.heap.size rfl 130 (Ust.bA T NM PF t m s) X10.out rfl ?_) | (refine ae rfl 130 _ _ rfl w1.heap.size rfl (Ust.bA T NM PF t m s) Ust.cr rfl 130 Q10.out HO.out.2 rfl (aY _ _ _ _ _ _) ?_;intro w11 g11 t11;have Q11:=ad g11;have T11:=ad t11;clear g11 t11));exact bodyPost_ret (ay Tryz.results99 HO.out _ w1.heap.size rfl _ (Ust.bA T NM PF t m s) Q11.out rfl) rfl (by rw[eLK.out,eS.out,eL.out];exact .nil (B10.out.trans (T11.out.below (Nat.le_of_lt N1.out))))
   ·have eS:Hid (S'=0) :=by show _=_;rw[hS'.out,if_neg hs]
    have eL:Hid (L= [(aS,SZ)]) :=by show _=_;rw[hL.out];simp[htn,hs]
    go_wp2_with (first| (refine aw rfl 9 _ _ rfl w3.heap.size 2 rfl (.string PF) rfl rfl S1.out 130 _ X7.out (by show 2<6;decide) ?_;intro w8 g8 t8;have X8:Hid (ak w8 w3.heap.size 130 (Ust.bA T emp PF t m 0)) :=g8;have E8:=ad (E7.out.aK t8 (Nat.ne_of_lt LB.out.1));have Q8:=ad (Q7.out.aK t8 (Nat.ne_of_lt LB.out.2));have B8:=ad (B7.out.trans (t8.below (Nat.le_of_lt LB.out.1)));clear g8 t8 c1 c3 c4;have c1:=E8.out.get 1 rfl;have c3:=E8.out.get 3 rfl;have c4:=E8.out.get 4 rfl) | (refine aw rfl 9 _ _ rfl w3.heap.size 1 rfl (.string NM) rfl rfl S1.out 130 _ X8.out (by show 1<6;decide) ?_;intro w9 g9 t9;have X9:Hid (ak w9 w3.heap.size 130 (Ust.bA T NM PF t m 0)) :=g9;have E9:=ad (E8.out.aK t9 (Nat.ne_of_lt LB.out.1));have Q9:=ad (Q8.out.aK t9 (Nat.ne_of_lt LB.out.2));have B9:=ad (B8.out.trans (t9.below (Nat.le_of_lt LB.out.1)));clear g9 t9 c1 c3 c4;have c1:=E9.out.get 1 rfl;have c3:=E9.out.get 3 rfl;have c4:=E9.out.get 4 rfl));refine(C3.out w9 B9.out).mono ?_;rintro e w10 ⟨rfl,b10⟩;have E10:=ad (E9.out.below b10 E9.out.lt);have Q10:=ad (Q9.out.below b10 Q9.out.lt);have X10:=ad (X9.out.below b10 X9.out.lt);have B10:=ad (ar B9.out b10);clear b10 c1 c3 c4;have c1:=E10.out.get 1 rfl;have c3:=E10.out.get 3 rfl;have c4:=E10.out.get 4 rfl;go_wp2_with (first| (refine bQ rfl _ 202 _ rfl HU.out _ hJ.out aS SZ rfl ?_;intro w11 g11 b11;have G11:=ad g11;have E11:=ad (E10.out.below b11 E10.out.lt);have Q11:=ad (Q10.out.below b11 Q10.out.lt);have X11:=ad (X10.out.below b11 X10.out.lt);have B11:=ad (ar B10.out b11);have W11:Hid (w11.ownsRow (w3.heap.size+1) 202 2 (.slice none 0 0) 0 (aW [])) :=⟨rfl,.inl ⟨rfl,rfl⟩⟩;clear g11 b11) | (at_builtin;refine bo rfl _ _ _ rfl (w3.heap.size+1) _ i0 _ HU.out hI _ 0 [] rfl W11.out w10.heap.size (aS,SZ) rfl G11.out (by decide) (X11.out.lt) ?_;intro v12 w12 o12 b12 _;have W12:Hid (w12.ownsRow (w3.heap.size+1) 202 2 v12 1 (aW [(aS,SZ)])) :=o12;have E12:=ad (E11.out.below b12 (Nat.lt_succ_of_lt LB.out.1));have Q12:=ad (Q11.out.below b12 (Nat.lt_succ_of_lt LB.out.2));have X12:=ad (X11.out.below b12 (Nat.lt_succ_self _));have B12:=ad (B11.out.trans (b12.mono (Nat.le_of_lt (Nat.lt_succ_of_lt LB.out.1))));clear o12 b12 c1 c3 c4;have c1:=E12.out.get 1 rfl;have c3:=E12.out.get 3 rfl;have c4:=E12.out.get 4 rfl) | (refine aG rfl 130 6 HO.out _ rfl w3.heap.size rfl 130 (Ust.bA T NM PF t m 0) X12.out rfl ?_) | (refine ae rfl 130 _ _ rfl w1.heap.size rfl (Ust.bA T NM PF t m 0) Ust.cr rfl 130 Q12.out HO.out.2 rfl (aY _ _ _ _ _ _) ?_;intro w13 g13 t13;have Q13:=ad g13;have T13:=ad t13;clear g13 t13));have W13:=ad (ea W12.out T13.out (Nat.lt_succ_of_lt LB.out.2));exact bodyPost_ret (ay Tryz.results99 HO.out _ w1.heap.size rfl _ (Ust.bA T NM PF t m 0) Q13.out rfl) rfl (by rw[eLK.out,eS.out,eL.out];exact .own W13.out (B12.out.trans (T13.out.below (Nat.le_of_lt N1.out))))
  |false=>
   obtain⟨hn1,hn2⟩:=hN.out rfl;subst hn1;subst hn2;by_cases hs:s<=8589934591
   ·have eS:Hid (S'=s) :=by show _=_;rw[hS'.out,if_pos hs]
    have eL:Hid (L= [(aM,p)]) :=by show _=_;rw[hL.out];simp[htn,hs]
    go_wp2_with (first| (refine bQ rfl _ 202 _ rfl HU.out _ hJ.out aM p rfl ?_;intro w8 g8 b8;have G8:=ad g8;have E8:=ad (E7.out.below b8 E7.out.lt);have Q8:=ad (Q7.out.below b8 Q7.out.lt);have X8:=ad (X7.out.below b8 X7.out.lt);have B8:=ad (ar B7.out b8);have W8:Hid (w8.ownsRow (w3.heap.size+1) 202 2 (.slice none 0 0) 0 (aW [])) :=⟨rfl,.inl ⟨rfl,rfl⟩⟩;clear g8 b8) | (at_builtin;refine bo rfl _ _ _ rfl (w3.heap.size+1) _ i0 _ HU.out hI _ 0 [] rfl W8.out w7.heap.size (aM,p) rfl G8.out (by decide) (X8.out.lt) ?_;intro v9 w9 o9 b9 _;have W9:Hid (w9.ownsRow (w3.heap.size+1) 202 2 v9 1 (aW [(aM,p)])) :=o9;have E9:=ad (E8.out.below b9 (Nat.lt_succ_of_lt LB.out.1));have Q9:=ad (Q8.out.below b9 (Nat.lt_succ_of_lt LB.out.2));have X9:=ad (X8.out.below b9 (Nat.lt_succ_self _));have B9:=ad (B8.out.trans (b9.mono (Nat.le_of_lt (Nat.lt_succ_of_lt LB.out.1))));clear o9 b9 c1 c3 c4;have c1:=E9.out.get 1 rfl;have c3:=E9.out.get 3 rfl;have c4:=E9.out.get 4 rfl) | (refine aw rfl 2 _ _ rfl w3.heap.size 5 rfl (.int .i64 s) rfl rfl S6.out 130 _ X9.out (by show 5<6;decide) ?_;intro w10 g10 t10;have X10:Hid (ak w10 w3.heap.size 130 (Ust.bA T emp emp t m s)) :=g10;have E10:=ad (E9.out.aK t10 (Nat.ne_of_lt LB.out.1));have Q10:=ad (Q9.out.aK t10 (Nat.ne_of_lt LB.out.2));have B10:=ad (B9.out.trans (t10.below (Nat.le_of_lt LB.out.1)));have W10:=ad (bx W9.out t10 (Nat.lt_succ_self _));clear g10 t10 c1 c3 c4;have c1:=E10.out.get 1 rfl;have c3:=E10.out.get 3 rfl;have c4:=E10.out.get 4 rfl) | (refine aG rfl 130 6 HO.out _ rfl w3.heap.size rfl 130 (Ust.bA T emp emp t m s) X10.out rfl ?_) | (refine ae rfl 130 _ _ rfl w1.heap.size rfl (Ust.bA T emp emp t m s) Ust.cr rfl 130 Q10.out HO.out.2 rfl (aY _ _ _ _ _ _) ?_;intro w11 g11 t11;have Q11:=ad g11;have T11:=ad t11;clear g11 t11));have W11:=ad (ea W10.out T11.out (Nat.lt_succ_of_lt LB.out.2));exact bodyPost_ret (ay Tryz.results99 HO.out _ w1.heap.size rfl _ (Ust.bA T emp emp t m s) Q11.out rfl) rfl (by rw[eLK.out,eS.out,eL.out];exact .own W11.out (B10.out.trans (T11.out.below (Nat.le_of_lt N1.out))))
   ·have eS:Hid (S'=0) :=by show _=_;rw[hS'.out,if_neg hs]
    have eL:Hid (L= [(aM,p),(aS,SZ)]) :=by show _=_;rw[hL.out];simp[htn,hs]
    go_wp2_with (first| (refine bQ rfl _ 202 _ rfl HU.out _ hJ.out aM p rfl ?_;intro w8 g8 b8;have G8:=ad g8;have E8:=ad (E7.out.below b8 E7.out.lt);have Q8:=ad (Q7.out.below b8 Q7.out.lt);have X8:=ad (X7.out.below b8 X7.out.lt);have B8:=ad (ar B7.out b8);have W8:Hid (w8.ownsRow (w3.heap.size+1) 202 2 (.slice none 0 0) 0 (aW [])) :=⟨rfl,.inl ⟨rfl,rfl⟩⟩;clear g8 b8) | (at_builtin;refine bo rfl _ _ _ rfl (w3.heap.size+1) _ i0 _ HU.out hI _ 0 [] rfl W8.out w7.heap.size (aM,p) rfl G8.out (by decide) (X8.out.lt) ?_;intro v9 w9 o9 b9 _;have W9:Hid (w9.ownsRow (w3.heap.size+1) 202 2 v9 1 (aW [(aM,p)])) :=o9;have E9:=ad (E8.out.below b9 (Nat.lt_succ_of_lt LB.out.1));have Q9:=ad (Q8.out.below b9 (Nat.lt_succ_of_lt LB.out.2));have X9:=ad (X8.out.below b9 (Nat.lt_succ_self _));have B9:=ad (B8.out.trans (b9.mono (Nat.le_of_lt (Nat.lt_succ_of_lt LB.out.1))));clear o9 b9 c1 c3 c4;have c1:=E9.out.get 1 rfl;have c3:=E9.out.get 3 rfl;have c4:=E9.out.get 4 rfl));refine(C3.out w9 B9.out).mono ?_;rintro e w10 ⟨rfl,b10⟩;have E10:=ad (E9.out.below b10 E9.out.lt);have Q10:=ad (Q9.out.below b10 Q9.out.lt);have X10:=ad (X9.out.below b10 X9.out.lt);have B10:=ad (ar B9.out b10);have W10:=ad (cG W9.out b10 ah);clear b10 c1 c3 c4;have c1:=E10.out.get 1 rfl;have c3:=E10.out.get 3 rfl;have c4:=E10.out.get 4 rfl;go_wp2_with (first| (refine bQ rfl _ 202 _ rfl HU.out _ hJ.out aS SZ rfl ?_;intro w11 g11 b11;have G11:=ad g11;have E11:=ad (E10.out.below b11 E10.out.lt);have Q11:=ad (Q10.out.below b11 Q10.out.lt);have X11:=ad (X10.out.below b11 X10.out.lt);have B11:=ad (ar B10.out b11);have W11:=ad (cG W10.out b11 ah);clear g11 b11) | (at_builtin;refine bo rfl _ _ _ rfl (w3.heap.size+1) _ i0 _ HU.out hI _ 1 [(aM,p)] rfl W11.out w10.heap.size (aS,SZ) rfl G11.out (by decide) (X11.out.lt) ?_;intro v12 w12 o12 b12 _;have W12:Hid (w12.ownsRow (w3.heap.size+1) 202 2 v12 2 (aW [(aM,p),(aS,SZ)])) :=o12;have E12:=ad (E11.out.below b12 (Nat.lt_succ_of_lt LB.out.1));have Q12:=ad (Q11.out.below b12 (Nat.lt_succ_of_lt LB.out.2));have X12:=ad (X11.out.below b12 (Nat.lt_succ_self _));have B12:=ad (B11.out.trans (b12.mono (Nat.le_of_lt (Nat.lt_succ_of_lt LB.out.1))));clear o12 b12 c1 c3 c4;have c1:=E12.out.get 1 rfl;have c3:=E12.out.get 3 rfl;have c4:=E12.out.get 4 rfl) | (refine aG rfl 130 6 HO.out _ rfl w3.heap.size rfl 130 (Ust.bA T emp emp t m 0) X12.out rfl ?_) | (refine ae rfl 130 _ _ rfl w1.heap.size rfl (Ust.bA T emp emp t m 0) Ust.cr rfl 130 Q12.out HO.out.2 rfl (aY _ _ _ _ _ _) ?_;intro w13 g13 t13;have Q13:=ad g13;have T13:=ad t13;clear g13 t13));have W13:=ad (ea W12.out T13.out (Nat.lt_succ_of_lt LB.out.2));exact bodyPost_ret (ay Tryz.results99 HO.out _ w1.heap.size rfl _ (Ust.bA T emp emp t m 0) Q13.out rfl) rfl (by rw[eLK.out,eS.out,eL.out];exact .own W13.out (B12.out.trans (T13.out.below (Nat.le_of_lt N1.out))))
 ·have htn:¬t.size<=100:=by omega
  have eLK:Hid (LK=emp) :=by show _=_;rw[hLK.out,if_neg htn]
  go_wp2_with (first| (refine bQ rfl _ 202 _ rfl HU.out _ hJ.out aQ t rfl ?_;intro w6 g6 b6;have G6:=ad g6;have E6:=ad (E5.out.below b6 E5.out.lt);have Q6:=ad (Q5.out.below b6 Q5.out.lt);have X6:=ad (X5.out.below b6 X5.out.lt);have B6:=ad (ar B5.out b6);have W6:Hid (w6.ownsRow (w3.heap.size+1) 202 2 (.slice none 0 0) 0 (aW [])) :=⟨rfl,.inl ⟨rfl,rfl⟩⟩;clear g6 b6) | (at_builtin;refine bo rfl _ _ _ rfl (w3.heap.size+1) _ i0 _ HU.out hI _ 0 [] rfl W6.out w5.heap.size (aQ,t) rfl G6.out (by decide) (X6.out.lt) ?_;intro v7 w7 o7 b7 _;have W7:Hid (w7.ownsRow (w3.heap.size+1) 202 2 v7 1 (aW [(aQ,t)])) :=o7;have E7:=ad (E6.out.below b7 (Nat.lt_succ_of_lt LB.out.1));have Q7:=ad (Q6.out.below b7 (Nat.lt_succ_of_lt LB.out.2));have X7:=ad (X6.out.below b7 (Nat.lt_succ_self _));have B7:=ad (B6.out.trans (b7.mono (Nat.le_of_lt (Nat.lt_succ_of_lt LB.out.1))));clear o7 b7 c1 c3 c4;have c1:=E7.out.get 1 rfl;have c3:=E7.out.get 3 rfl;have c4:=E7.out.get 4 rfl));refine(C2.out w7).mono ?_;rintro e w8 ⟨rfl,b8⟩;have E8:=ad (E7.out.below b8 E7.out.lt);have Q8:=ad (Q7.out.below b8 Q7.out.lt);have X8:=ad (X7.out.below b8 X7.out.lt);have B8:=ad (ar B7.out b8);have W8:=ad (cG W7.out b8 ah);clear b8 c1 c3 c4;have c1:=E8.out.get 1 rfl;have c3:=E8.out.get 3 rfl;have c4:=E8.out.get 4 rfl
  cases pb with
  |true=>
   by_cases hs:s<=8589934591
   ·have eS:Hid (S'=s) :=by show _=_;rw[hS'.out,if_pos hs]
    have eL:Hid (L= [(aQ,t)]) :=by show _=_;rw[hL.out];simp[htn,hs]
    go_wp2_with (first| (refine aw rfl 9 _ _ rfl w3.heap.size 2 rfl (.string PF) rfl rfl S1.out 130 _ X8.out (by show 2<6;decide) ?_;intro w9 g9 t9;have X9:Hid (ak w9 w3.heap.size 130 (Ust.bA T emp PF emp m 0)) :=g9;have E9:=ad (E8.out.aK t9 (Nat.ne_of_lt LB.out.1));have Q9:=ad (Q8.out.aK t9 (Nat.ne_of_lt LB.out.2));have B9:=ad (B8.out.trans (t9.below (Nat.le_of_lt LB.out.1)));have W9:=ad (bx W8.out t9 (Nat.lt_succ_self _));clear g9 t9 c1 c3 c4;have c1:=E9.out.get 1 rfl;have c3:=E9.out.get 3 rfl;have c4:=E9.out.get 4 rfl) | (refine aw rfl 9 _ _ rfl w3.heap.size 1 rfl (.string NM) rfl rfl S1.out 130 _ X9.out (by show 1<6;decide) ?_;intro w10 g10 t10;have X10:Hid (ak w10 w3.heap.size 130 (Ust.bA T NM PF emp m 0)) :=g10;have E10:=ad (E9.out.aK t10 (Nat.ne_of_lt LB.out.1));have Q10:=ad (Q9.out.aK t10 (Nat.ne_of_lt LB.out.2));have B10:=ad (B9.out.trans (t10.below (Nat.le_of_lt LB.out.1)));have W10:=ad (bx W9.out t10 (Nat.lt_succ_self _));clear g10 t10 c1 c3 c4;have c1:=E10.out.get 1 rfl;have c3:=E10.out.get 3 rfl;have c4:=E10.out.get 4 rfl) | (refine aw rfl 2 _ _ rfl w3.heap.size 5 rfl (.int .i64 s) rfl rfl S6.out 130 _ X10.out (by show 5<6;decide) ?_;intro w11 g11 t11;have X11:Hid (ak w11 w3.heap.size 130 (Ust.bA T NM PF emp m s)) :=g11;have E11:=ad (E10.out.aK t11 (Nat.ne_of_lt LB.out.1));have Q11:=ad (Q10.out.aK t11 (Nat.ne_of_lt LB.out.2));have B11:=ad (B10.out.trans (t11.below (Nat.le_of_lt LB.out.1)));have W11:=ad (bx W10.out t11 (Nat.lt_succ_self _));clear g11 t11 c1 c3 c4;have c1:=E11.out.get 1 rfl;have c3:=E11.out.get 3 rfl;have c4:=E11.out.get 4 rfl) | (refine aG rfl 130 6 HO.out _ rfl w3.heap.size rfl 130 (Ust.bA T NM PF emp m s) X11.out rfl ?_) | (refine ae rfl 130 _ _ rfl w1.heap.size rfl (Ust.bA T NM PF emp m s) Ust.cr rfl 130 Q11.out HO.out.2 rfl (aY _ _ _ _ _ _) ?_;intro w12 g12 t12;have Q12:=ad g12;have T12:=ad t12;clear g12 t12));have W12:=ad (ea W11.out T12.out (Nat.lt_succ_of_lt LB.out.2));exact bodyPost_ret (ay Tryz.results99 HO.out _ w1.heap.size rfl _ (Ust.bA T NM PF emp m s) Q12.out rfl) rfl (by rw[eLK.out,eS.out,eL.out];exact .own W12.out (B11.out.trans (T12.out.below (Nat.le_of_lt N1.out))))
   ·have eS:Hid (S'=0) :=by show _=_;rw[hS'.out,if_neg hs]
    have eL:Hid (L= [(aQ,t),(aS,SZ)]) :=by show _=_;rw[hL.out];simp[htn,hs]
    go_wp2_with (first| (refine aw rfl 9 _ _ rfl w3.heap.size 2 rfl (.string PF) rfl rfl S1.out 130 _ X8.out (by show 2<6;decide) ?_;intro w9 g9 t9;have X9:Hid (ak w9 w3.heap.size 130 (Ust.bA T emp PF emp m 0)) :=g9;have E9:=ad (E8.out.aK t9 (Nat.ne_of_lt LB.out.1));have Q9:=ad (Q8.out.aK t9 (Nat.ne_of_lt LB.out.2));have B9:=ad (B8.out.trans (t9.below (Nat.le_of_lt LB.out.1)));have W9:=ad (bx W8.out t9 (Nat.lt_succ_self _));clear g9 t9 c1 c3 c4;have c1:=E9.out.get 1 rfl;have c3:=E9.out.get 3 rfl;have c4:=E9.out.get 4 rfl) | (refine aw rfl 9 _ _ rfl w3.heap.size 1 rfl (.string NM) rfl rfl S1.out 130 _ X9.out (by show 1<6;decide) ?_;intro w10 g10 t10;have X10:Hid (ak w10 w3.heap.size 130 (Ust.bA T NM PF emp m 0)) :=g10;have E10:=ad (E9.out.aK t10 (Nat.ne_of_lt LB.out.1));have Q10:=ad (Q9.out.aK t10 (Nat.ne_of_lt LB.out.2));have B10:=ad (B9.out.trans (t10.below (Nat.le_of_lt LB.out.1)));have W10:=ad (bx W9.out t10 (Nat.lt_succ_self _));clear g10 t10 c1 c3 c4;have c1:=E10.out.get 1 rfl;have c3:=E10.out.get 3 rfl;have c4:=E10.out.get 4 rfl));refine(C3.out w10 B10.out).mono ?_;rintro e w11 ⟨rfl,b11⟩;have E11:=ad (E10.out.below b11 E10.out.lt);have Q11:=ad (Q10.out.below b11 Q10.out.lt);have X11:=ad (X10.out.below b11 X10.out.lt);have B11:=ad (ar B10.out b11);have W11:=ad (cG W10.out b11 ah);clear b11 c1 c3 c4;have c1:=E11.out.get 1 rfl;have c3:=E11.out.get 3 rfl;have c4:=E11.out.get 4 rfl;go_wp2_with (first| (refine bQ rfl _ 202 _ rfl HU.out _ hJ.out aS SZ rfl ?_;intro w12 g12 b12;have G12:=ad g12;have E12:=ad (E11.out.below b12 E11.out.lt);have Q12:=ad (Q11.out.below b12 Q11.out.lt);have X12:=ad (X11.out.below b12 X11.out.lt);have B12:=ad (ar B11.out b12);have W12:=ad (cG W11.out b12 ah);clear g12 b12) | (at_builtin;refine bo rfl _ _ _ rfl (w3.heap.size+1) _ i0 _ HU.out hI _ 1 [(aQ,t)] rfl W12.out w11.heap.size (aS,SZ) rfl G12.out (by decide) (X12.out.lt) ?_;intro v13 w13 o13 b13 _;have W13:Hid (w13.ownsRow (w3.heap.size+1) 202 2 v13 2 (aW [(aQ,t),(aS,SZ)])) :=o13;have E13:=ad (E12.out.below b13 (Nat.lt_succ_of_lt LB.out.1));have Q13:=ad (Q12.out.below b13 (Nat.lt_succ_of_lt LB.out.2));have X13:=ad (X12.out.below b13 (Nat.lt_succ_self _));have B13:=ad (B12.out.trans (b13.mono (Nat.le_of_lt (Nat.lt_succ_of_lt LB.out.1))));clear o13 b13 c1 c3 c4;have c1:=E13.out.get 1 rfl;have c3:=E13.out.get 3 rfl;have c4:=E13.out.get 4 rfl) | (refine aG rfl 130 6 HO.out _ rfl w3.heap.size rfl 130 (Ust.bA T NM PF emp m 0) X13.out rfl ?_) | (refine ae rfl 130 _ _ rfl w1.heap.size rfl (Ust.bA T NM PF emp m 0) Ust.cr rfl 130 Q13.out HO.out.2 rfl (aY _ _ _ _ _ _) ?_;intro w14 g14 t14;have Q14:=ad g14;have T14:=ad t14;clear g14 t14));have W14:=ad (ea W13.out T14.out (Nat.lt_succ_of_lt LB.out.2));exact bodyPost_ret (ay Tryz.results99 HO.out _ w1.heap.size rfl _ (Ust.bA T NM PF emp m 0) Q14.out rfl) rfl (by rw[eLK.out,eS.out,eL.out];exact .own W14.out (B13.out.trans (T14.out.below (Nat.le_of_lt N1.out))))
  |false=>
   obtain⟨hn1,hn2⟩:=hN.out rfl;subst hn1;subst hn2;by_cases hs:s<=8589934591
   ·have eS:Hid (S'=s) :=by show _=_;rw[hS'.out,if_pos hs]
    have eL:Hid (L= [(aQ,t),(aM,p)]) :=by show _=_;rw[hL.out];simp[htn,hs]
    go_wp2_with (first| (refine bQ rfl _ 202 _ rfl HU.out _ hJ.out aM p rfl ?_;intro w9 g9 b9;have G9:=ad g9;have E9:=ad (E8.out.below b9 E8.out.lt);have Q9:=ad (Q8.out.below b9 Q8.out.lt);have X9:=ad (X8.out.below b9 X8.out.lt);have B9:=ad (ar B8.out b9);have W9:=ad (cG W8.out b9 ah);clear g9 b9) | (at_builtin;refine bo rfl _ _ _ rfl (w3.heap.size+1) _ i0 _ HU.out hI _ 1 [(aQ,t)] rfl W9.out w8.heap.size (aM,p) rfl G9.out (by decide) (X9.out.lt) ?_;intro v10 w10 o10 b10 _;have W10:Hid (w10.ownsRow (w3.heap.size+1) 202 2 v10 2 (aW [(aQ,t),(aM,p)])) :=o10;have E10:=ad (E9.out.below b10 (Nat.lt_succ_of_lt LB.out.1));have Q10:=ad (Q9.out.below b10 (Nat.lt_succ_of_lt LB.out.2));have X10:=ad (X9.out.below b10 (Nat.lt_succ_self _));have B10:=ad (B9.out.trans (b10.mono (Nat.le_of_lt (Nat.lt_succ_of_lt LB.out.1))));clear o10 b10 c1 c3 c4;have c1:=E10.out.get 1 rfl;have c3:=E10.out.get 3 rfl;have c4:=E10.out.get 4 rfl) | (refine aw rfl 2 _ _ rfl w3.heap.size 5 rfl (.int .i64 s) rfl rfl S6.out 130 _ X10.out (by show 5<6;decide) ?_;intro w11 g11 t11;have X11:Hid (ak w11 w3.heap.size 130 (Ust.bA T emp emp emp m s)) :=g11;have E11:=ad (E10.out.aK t11 (Nat.ne_of_lt LB.out.1));have Q11:=ad (Q10.out.aK t11 (Nat.ne_of_lt LB.out.2));have B11:=ad (B10.out.trans (t11.below (Nat.le_of_lt LB.out.1)));have W11:=ad (bx W10.out t11 (Nat.lt_succ_self _));clear g11 t11 c1 c3 c4;have c1:=E11.out.get 1 rfl;have c3:=E11.out.get 3 rfl;have c4:=E11.out.get 4 rfl) | (refine aG rfl 130 6 HO.out _ rfl w3.heap.size rfl 130 (Ust.bA T emp emp emp m s) X11.out rfl ?_) | (refine ae rfl 130 _ _ rfl w1.heap.size rfl (Ust.bA T emp emp emp m s) Ust.cr rfl 130 Q11.out HO.out.2 rfl (aY _ _ _ _ _ _) ?_;intro w12 g12 t12;have Q12:=ad g12;have T12:=ad t12;clear g12 t12));have W12:=ad (ea W11.out T12.out (Nat.lt_succ_of_lt LB.out.2));exact bodyPost_ret (ay Tryz.results99 HO.out _ w1.heap.size rfl _ (Ust.bA T emp emp emp m s) Q12.out rfl) rfl (by rw[eLK.out,eS.out,eL.out];exact .own W12.out (B11.out.trans (T12.out.below (Nat.le_of_lt N1.out))))
   ·have eS:Hid (S'=0) :=by show _=_;rw[hS'.out,if_neg hs]
    have eL:Hid (L= [(aQ,t),(aM,p),(aS,SZ)]) :=by show _=_;rw[hL.out];simp[htn,hs]
    go_wp2_with (first| (refine bQ rfl _ 202 _ rfl HU.out _ hJ.out aM p rfl ?_;intro w9 g9 b9;have G9:=ad g9;have E9:=ad (E8.out.below b9 E8.out.lt);have Q9:=ad (Q8.out.below b9 Q8.out.lt);have X9:=ad (X8.out.below b9 X8.out.lt);have B9:=ad (ar B8.out b9);have W9:=ad (cG W8.out b9 ah);clear g9 b9) | (at_builtin;refine bo rfl _ _ _ rfl (w3.heap.size+1) _ i0 _ HU.out hI _ 1 [(aQ,t)] rfl W9.out w8.heap.size (aM,p) rfl G9.out (by decide) (X9.out.lt) ?_;intro v10 w10 o10 b10 _;have W10:Hid (w10.ownsRow (w3.heap.size+1) 202 2 v10 2 (aW [(aQ,t),(aM,p)])) :=o10;have E10:=ad (E9.out.below b10 (Nat.lt_succ_of_lt LB.out.1));have Q10:=ad (Q9.out.below b10 (Nat.lt_succ_of_lt LB.out.2));have X10:=ad (X9.out.below b10 (Nat.lt_succ_self _));have B10:=ad (B9.out.trans (b10.mono (Nat.le_of_lt (Nat.lt_succ_of_lt LB.out.1))));clear o10 b10 c1 c3 c4;have c1:=E10.out.get 1 rfl;have c3:=E10.out.get 3 rfl;have c4:=E10.out.get 4 rfl));refine(C3.out w10 B10.out).mono ?_;rintro e w11 ⟨rfl,b11⟩;have E11:=ad (E10.out.below b11 E10.out.lt);have Q11:=ad (Q10.out.below b11 Q10.out.lt);have X11:=ad (X10.out.below b11 X10.out.lt);have B11:=ad (ar B10.out b11);have W11:=ad (cG W10.out b11 ah);clear b11 c1 c3 c4;have c1:=E11.out.get 1 rfl;have c3:=E11.out.get 3 rfl;have c4:=E11.out.get 4 rfl;go_wp2_with (first| (refine bQ rfl _ 202 _ rfl HU.out _ hJ.out aS SZ rfl ?_;intro w12 g12 b12;have G12:=ad g12;have E12:=ad (E11.out.below b12 E11.out.lt);have Q12:=ad (Q11.out.below b12 Q11.out.lt);have X12:=ad (X11.out.below b12 X11.out.lt);have B12:=ad (ar B11.out b12);have W12:=ad (cG W11.out b12 ah);clear g12 b12) | (at_builtin;refine bo rfl _ _ _ rfl (w3.heap.size+1) _ i0 _ HU.out hI _ 2 [(aQ,t),(aM,p)] rfl W12.out w11.heap.size (aS,SZ) rfl G12.out (by decide) (X12.out.lt) ?_;intro v13 w13 o13 b13 _;have W13:Hid (w13.ownsRow (w3.heap.size+1) 202 2 v13 3 (aW [(aQ,t),(aM,p),(aS,SZ)])) :=o13;have E13:=ad (E12.out.below b13 (Nat.lt_succ_of_lt LB.out.1));have Q13:=ad (Q12.out.below b13 (Nat.lt_succ_of_lt LB.out.2));have X13:=ad (X12.out.below b13 (Nat.lt_succ_self _));have B13:=ad (B12.out.trans (b13.mono (Nat.le_of_lt (Nat.lt_succ_of_lt LB.out.1))));clear o13 b13 c1 c3 c4;have c1:=E13.out.get 1 rfl;have c3:=E13.out.get 3 rfl;have c4:=E13.out.get 4 rfl) | (refine aG rfl 130 6 HO.out _ rfl w3.heap.size rfl 130 (Ust.bA T emp emp emp m 0) X13.out rfl ?_) | (refine ae rfl 130 _ _ rfl w1.heap.size rfl (Ust.bA T emp emp emp m 0) Ust.cr rfl 130 Q13.out HO.out.2 rfl (aY _ _ _ _ _ _) ?_;intro w14 g14 t14;have Q14:=ad g14;have T14:=ad t14;clear g14 t14));have W14:=ad (ea W13.out T14.out (Nat.lt_succ_of_lt LB.out.2));exact bodyPost_ret (ay Tryz.results99 HO.out _ w1.heap.size rfl _ (Ust.bA T emp emp emp m 0) Q14.out rfl) rfl (by rw[eLK.out,eS.out,eL.out];exact .own W14.out (B13.out.trans (T14.out.below (Nat.le_of_lt N1.out))))
end Go.Proofs.YtcjagakckffkiaaGreatDoor.Fit
