import Derived.Test.YtcjagakckffkiaaGreatDoorQ4
import Derived.Test.YtcjagakckffkiaaGreatDoorQ1
import Derived.Test.YtcjagakckffkiaaGreatDoorQ2
import Derived.Test.YtcjagakckffkiaaGreatDoorRows
import Derived.Deep.QuietTactic
import Derived.BigQuiet
import Derived.BigRegion
set_option maxHeartbeats 16000000
namespace Go.Proofs.YtcjagakckffkiaaGreatDoor.Fit
open Go.Lib Go.RowKit bL Pnm
theorem Ez (zs:List Int) : (strOfNums zs).size=zs.length:=by
 rw[Lib.size_eq,strOfNums_data,List.length_map]
theorem Mc {e:dY}(h:Ok e) : (gr e).nm.size<=100/\ (gr e).pf.size<=155/\ (gr e).lk.size<=100/\Ust.mA (gr e).T (gr e).nm (gr e).pf (gr e).lk (gr e).md (gr e).sz=0:=by
 have hp:=ru h.path;have h0:=kx (iM.1 h.path).2;have hs:=ra e.p
 have hN: (0:Int)∉fJ (af e.p)/\ (fJ (af e.p)).length<=100/\ (0:Int)∉fI (af e.p)/\ (fI (af e.p)).length<=155:=by
  rcases iH e.p with⟨_,a,b,c⟩|⟨_,_,_,d,e1,e2,_⟩|⟨_,a,b,_⟩
  ·rw[a,b];exact⟨h0,by rw[an];exact c,by simp,by simp⟩
  ·refine⟨fun hm=>h0 (by rw[d];exact List.mem_append_right _ (List.mem_cons_of_mem _ hm)),e2,fun hm=>h0 (by rw[d];exact List.mem_append_left _ hm),e1⟩
  ·rw[a,b];exact⟨by simp,by simp,by simp,by simp⟩
 have hl: (gr e).lk.size<=100/\ (0:Int)∉af (gr e).lk:=by
  show(if e.t.size<=100 then e.t else emp).size<=100/\ (0:Int)∉af (if e.t.size<=100 then e.t else emp);by_cases hc:e.t.size<=100
  ·rw[if_pos hc];refine⟨hc,?_⟩;rcases(kJ h.tg).2.2 with ht|ht
   ·rw[ht];decide
   ·intro hm;unfold iC at ht;rw[if_neg (by omega),if_pos (.inr hm)]at ht
    cases ht
  ·rw[if_neg hc];decide
 obtain⟨s0,s1,_⟩:=gV h.sz;refine⟨by show(strOfNums (fJ (af e.p))).size<=100;rw[Ez];exact hN.2.1,by show(strOfNums (fI (af e.p))).size<=155;rw[Ez];exact hN.2.2.2,hl.1,Ust.dx.2 ⟨?_,?_,?_,?_,⟨h.m0,h.m1⟩,?_⟩⟩
 ·have:=wY h.k0 h.k4;show Ust.known (yf e.k);unfold Ust.known;omega
 ·refine Cst.iY.2 ⟨by decide,by decide,?_,?_⟩
  ·show(0:Int)∉af (strOfNums (fJ (af e.p)));rw[hs.2];exact hN.1
  ·show((af (strOfNums (fJ (af e.p)))).length:Int)<=100;rw[hs.2];have:=hN.2.1;omega
 ·refine Cst.iY.2 ⟨by decide,by decide,hl.2,?_⟩;rw[an];have:=hl.1;omega
 ·refine Cst.iY.2 ⟨by decide,by decide,?_,?_⟩
  ·show(0:Int)∉af (strOfNums (fI (af e.p)));rw[hs.1];exact hN.2.2.1
  ·show((af (strOfNums (fI (af e.p)))).length:Int)<=155;rw[hs.1];have:=hN.2.2.2;omega
 ·show 0<= (if e.s<=8589934591 then e.s else 0)/\ (if e.s<=8589934591 then e.s else 0)<=8589934591
  split<;>omega
theorem IY {e:dY}(h:Ok e) :∀r∈gI e,r.2.size<=65536:=fun r hr=> (qi (Es h r hr)).val
end Go.Proofs.YtcjagakckffkiaaGreatDoor.Fit
namespace Go.Proofs.YtcjagakckffkiaaGreatDoor.bL
open Go.Lib Go.RowKit
def jF (c:Int)(zs:List Int) :List Int:=zs.takeWhile (fun z=>z !=c)
theorem uq {c:Int}{a:List Int}(h:c∉a)(b:List Int) :jF c (a++c::b) =a:=by
 unfold jF
 induction a with
 |nil=>simp
 |cons x a ih=>
  rw[List.mem_cons,not_or]at h;have hx: (x !=c) =true:=by simpa using fun e:x=c=>h.1 e.symm
  rw[List.cons_append,List.takeWhile_cons,hx,if_pos rfl,ih h.2]
theorem xN {c:Int}{a:List Int}(h:c∉a) :jF c a=a:=by
 induction a with
 |nil=>rfl
 |cons x a ih=>
  rw[List.mem_cons,not_or]at h;have hx: (x !=c) =true:=by simpa using fun e:x=c=>h.1 e.symm
  have:=ih h.2;unfold jF at this⊢;rw[List.takeWhile_cons,hx,if_pos rfl,this]
theorem Hv (c:Int)(zs:List Int) :c∉jF c zs:=by
 induction zs with
 |nil=>intro h;cases h
 |cons x zs ih=>
  unfold jF at ih⊢;rw[List.takeWhile_cons];by_cases hx:x=c
  ·subst hx;simp
  ·have hx': (x !=c) =true:=by simpa using hx
   rw[hx',if_pos rfl,List.mem_cons,not_or];exact⟨fun e=>hx e.symm,ih⟩
theorem gE {c:Int} :∀{zs:List Int},c∈zs->zs=jF c zs++c::zs.drop ((jF c zs).length+1)
 | [],h=>by cases h
 |x::zs,h=>by
  unfold jF;by_cases hx:x=c
  ·subst hx;simp
  ·have hx': (x !=c) =true:=by simpa using hx
   have:=gE (zs:=zs) ((List.mem_cons.1 h).resolve_left (fun e=>hx e.symm));rw[List.takeWhile_cons,hx',if_pos rfl,List.cons_append,List.length_cons,List.drop_succ_cons]
   conv=>lhs;rw[this]
   rfl
theorem zY {c:Int}{zs:List Int}(h:c∈zs) : (jF c zs).length<zs.length:=by
 have:=congrArg List.length (gE h);simp at this;omega
theorem Ek (c:Int)(zs:List Int) : (jF c zs).length<=zs.length:=List.takeWhile_prefix _|>.length_le
theorem qS (c:Int)(zs:List Int) :jF c zs=zs.take (jF c zs).length:=by
 have:=List.takeWhile_prefix (fun z=>z !=c) (l:=zs);exact List.prefix_iff_eq_take.1 this
theorem OA {c:Int}{zs:List Int}(h:c∈zs) :zs.getD (jF c zs).length 0=c:=by
 have h1:=congrArg (fun l:List Int=>l.getD (jF c zs).length 0) (gE h);rw[h1,List.getD_eq_getElem?_getD,List.getElem?_append_right ah,Nat.sub_self];rfl
def ke (zs:List Int) :List Int:=jF 32 zs
def ig (zs:List Int) :Nat:=gi (ke zs)
def tt (zs:List Int) :List Int:= (zs.take (ig zs- 1)).drop ((ke zs).length+1)
def wv (zs:List Int) :List Int:=jF 61 (tt zs)
def yc (zs:List Int) :List Int:= (tt zs).drop ((wv zs).length+1)
def lQ (zs:List Int) :Rec:= (strOfNums (wv zs),strOfNums (yc zs))
def mv (zs:List Int) :Int:=
 if(32:Int)∉zs\/cU (ke zs) =false\/ig zs=0\/999999<ig zs then 6
 else if zs.length<ig zs then 5
 else if ig zs< (ke zs).length+2\/zs.getD (ig zs- 1) 0≠10\/ (61:Int)∉tt zs\/pA ((wv zs).length+ (yc zs).length+3)≠ig zs then 6 else 0
structure Cw (zs:List Int) :Prop where
 sp: (32:Int)∈zs
 ok:cU (ke zs) =true
 pos:1<=ig zs
 QE:ig zs<=999999
 len:ig zs<=zs.length
 room: (ke zs).length+2<=ig zs
 nl:zs.getD (ig zs- 1) 0=10
 eq: (61:Int)∈tt zs
 sz:pA ((wv zs).length+ (yc zs).length+3) =ig zs
theorem vo (zs:List Int) :mv zs=0↔Cw zs:=by
 unfold mv;constructor
 ·intro h;by_cases h1: (32:Int)∉zs\/cU (ke zs) =false\/ig zs=0\/999999<ig zs
  ·rw[if_pos h1]at h;omega
  ·rw[if_neg h1]at h;by_cases h2:zs.length<ig zs
   ·rw[if_pos h2]at h;omega
   ·rw[if_neg h2]at h;by_cases h3:ig zs< (ke zs).length+2\/zs.getD (ig zs- 1) 0≠10\/ (61:Int)∉tt zs\/pA ((wv zs).length+ (yc zs).length+3)≠ig zs
    ·rw[if_pos h3]at h;omega
    ·simp only[not_or,Decidable.not_not,Nat.not_lt,Bool.not_eq_false]at h1 h2 h3;exact⟨h1.1,h1.2.1,by omega,h1.2.2.2,h2,h3.1,h3.2.1,h3.2.2.1,h3.2.2.2⟩
 ·intro h;rw[if_neg,if_neg,if_neg]
  ·simp only[not_or,Decidable.not_not,Nat.not_lt];exact⟨h.room,h.nl,h.eq,h.sz⟩
  ·have:=h.len;omega
  ·simp only[not_or,Decidable.not_not,Nat.not_lt,Bool.not_eq_false];exact⟨h.sp,h.ok,by have:=h.pos;omega,h.QE⟩
theorem kM {zs:List Int}{n:Nat}(h1:1<=n)(h2:n<=zs.length) :zs.take n=zs.take (n- 1) ++ [zs.getD (n- 1) 0] :=by
 have e:=List.take_succ_eq_append_getElem (l:=zs) (i:=n- 1) (by omega);rw[show n- 1+1=n by omega]at e;rw[e,List.getD_eq_getElem?_getD,List.getElem?_eq_getElem (by omega)];rfl
theorem IG {zs:List Int}(h:Cw zs) :zs.take (ig zs) =dq (ig zs) ++ [32] ++wv zs++ [61] ++yc zs++ [10] :=by
 have hd:dq (ig zs) =ke zs:=tw _ h.ok;rw[kM h.pos h.len,h.nl]
 congr 1
 have hs:zs.take ((ke zs).length+1) =ke zs++ [32] :=by
  have:=gE h.sp;have hl:=zY h.sp;rw[kM (by omega) (by unfold ke;omega)];rw[show(ke zs).length+1- 1= (ke zs).length by omega];unfold ke;rw[<- qS,OA h.sp]
 have e:zs.take (ig zs- 1) = (zs.take (ig zs- 1)).take ((ke zs).length+1) ++tt zs:= (List.take_append_drop _ _).symm;rw[e,List.take_take,Nat.min_eq_left (by have:=h.room;omega),hs,hd]
 conv=>lhs;rw[gE h.eq]
 unfold yc wv;simp only[List.append_assoc,List.cons_append,List.nil_append]
theorem lM {zs:List Int}(h:∀z∈zs,0<=z/\z<=255) : (∀z∈wv zs,0<=z/\z<=255)/\ (∀z∈yc zs,0<=z/\z<=255) :=by
 have hb:∀z∈tt zs,0<=z/\z<=255:=fun z hz=>h z (List.mem_of_mem_take (List.mem_of_mem_drop hz));exact⟨fun z hz=>hb z ((List.takeWhile_prefix _).subset hz),fun z hz=>hb z (List.mem_of_mem_drop hz)⟩
theorem yW {zs:List Int}(hz:∀z∈zs,0<=z/\z<=255) :mB (lQ zs) = (wv zs).length+ (yc zs).length+3:=by
 obtain⟨h1,h2⟩:=lM hz;unfold mB lQ;rw[<- an,<- an,av h1,av h2]
theorem yO (zs:List Int) : (wv zs).length+ (yc zs).length<=zs.length:=by
 have h1: (tt zs).length<=zs.length:=by unfold tt;rw[List.length_drop,List.length_take];omega
 have h2: (wv zs).length<= (tt zs).length:=Ek _ _;have h3: (yc zs).length= (tt zs).length- ((wv zs).length+1) :=by unfold yc;rw[List.length_drop]
 omega
theorem Md {zs:List Int}(hz:∀z∈zs,0<=z/\z<=255)(h:Cw zs) :zs.take (ig zs) =lA (lQ zs)/\lv (lQ zs) =ig zs:=by
 have e:lv (lQ zs) =ig zs:=by unfold lv;rw[yW hz];exact h.sz
 refine⟨?_,e⟩;obtain⟨h1,h2⟩:=lM hz;rw[IG h];unfold lA;rw[e];show _=dq (ig zs) ++ [32] ++af (strOfNums (wv zs)) ++ [61] ++af (strOfNums (yc zs)) ++ [10];rw[av h1,av h2]
theorem Eb (n:Nat) : (32:Int)∉dq n:=fun h=>by
 have:=iI n;rw[List.all_eq_true]at this;have:=this _ h;exact absurd this (by decide)
theorem PV {r:Rec}(G:Good r)(rest:List Int) :Cw (lA r++rest)/\lQ (lA r++rest) =r/\ig (lA r++rest) =lv r:=by
 have ho:mB r<=1000000:=by have:=G.mB;omega
 have hlen:=jf ho;obtain⟨n,hn⟩:∃n,n=lv r:=⟨_,rfl⟩;have hfix:nDigits n+mB r=n:=by rw[hn];exact Ar ho
 have e1:lA r++rest=dq n++32:: (af r.1++61::af r.2++10::rest) :=by unfold lA;rw[hn];simp
 have hD:ke (lA r++rest) =dq n:=by unfold ke;rw[e1,uq (Eb n)]
 have hN:ig (lA r++rest) =n:=by unfold ig;rw[hD,kY]
 have hnp:=nDigits_pos n;have hon:mB r= (af r.1).length+ (af r.2).length+3:=by unfold mB;rw[an,an]
 have e2:lA r++rest= (dq n++32:: (af r.1++61::af r.2)) ++10::rest:=by rw[e1];simp
 have hl2: (dq n++32:: (af r.1++61::af r.2)).length=n- 1:=by
  simp only[List.length_append,List.length_cons,jZ];omega
 have hB:tt (lA r++rest) =af r.1++61::af r.2:=by
  unfold tt;rw[hN,hD,e2,List.take_left' hl2,show dq n++32:: (af r.1++61::af r.2) = (dq n++ [32]) ++ (af r.1++61::af r.2) by simp,List.drop_left' (by simp)]
 have hK:wv (lA r++rest) =af r.1:=by unfold wv;rw[hB,uq G.eq]
 have hV:yc (lA r++rest) =af r.2:=by
  unfold yc;rw[hK,hB,show af r.1++61::af r.2= (af r.1++ [61]) ++af r.2 by simp,List.drop_left' (by simp)]
 have hR:lQ (lA r++rest) =r:=by unfold lQ;rw[hK,hV,az,az]
 refine⟨⟨?_,?_,?_,?_,?_,?_,?_,?_,?_⟩,hR,hN.trans hn⟩
 ·rw[e1];simp
 ·rw[hD];exact vI n
 ·rw[hN];omega
 ·rw[hN,hn];have:=G.sz;omega
 ·rw[hN,List.length_append,hlen,hn];omega
 ·rw[hD,hN,jZ];omega
 ·rw[hN,e2,List.getD_eq_getElem?_getD,List.getElem?_append_right (by omega),hl2,Nat.sub_self];rfl
 ·rw[hB];simp
 ·rw[hK,hV,hN,<- hon,hn];rfl
def ph:Nat->List Rec->Nat->List Int->List Rec×Nat×Int
 |0,out,at_,_=> (out,at_,0)
 |f+1,out,at_,zs=>
  if zs.length<=at_ then(out,zs.length,0)
  else if mv (zs.drop at_)≠0 then([],at_,mv (zs.drop at_))
  else if eI out (lQ (zs.drop at_))≠0 then([],at_,eI out (lQ (zs.drop at_)))
  else ph f (out++ [lQ (zs.drop at_)]) (at_+ig (zs.drop at_)) zs
def bh (zs:List Int) :List Rec×Nat×Int:=if 262144<zs.length then([],0,7)else ph (zs.length+1) [] 0 zs
theorem rN {f:Nat}{out:List Rec}{at_:Nat}{zs:List Int}(h:zs.length<=at_) :ph (f+1) out at_ zs= (out,zs.length,0) :=by
 unfold ph;rw[if_pos h]
theorem zT {f:Nat}{out:List Rec}{at_:Nat}{zs:List Int}(h:¬zs.length<=at_)(h1:mv (zs.drop at_)≠0) :ph (f+1) out at_ zs= ([],at_,mv (zs.drop at_)) :=by
 unfold ph;rw[if_neg h,if_pos h1]
theorem tD {f:Nat}{out:List Rec}{at_:Nat}{zs:List Int}(h:¬zs.length<=at_)(h1:mv (zs.drop at_) =0)(h2:eI out (lQ (zs.drop at_))≠0) :ph (f+1) out at_ zs= ([],at_,eI out (lQ (zs.drop at_))) :=by
 unfold ph;rw[if_neg h,if_neg (by simpa using h1),if_pos h2]
theorem yi {f:Nat}{out:List Rec}{at_:Nat}{zs:List Int}(h:¬zs.length<=at_)(h1:mv (zs.drop at_) =0)(h2:eI out (lQ (zs.drop at_)) =0) :ph (f+1) out at_ zs=ph f (out++ [lQ (zs.drop at_)]) (at_+ig (zs.drop at_)) zs:=by
 conv=>lhs;unfold ph
 rw[if_neg h,if_neg (by simpa using h1),if_neg (by simpa using h2)]
theorem wH (zs:List Int)(hz:∀z∈zs,0<=z/\z<=255) :∀(f:Nat) (out:List Rec) (at_:Nat),zs.length<at_+f->at_<=zs.length->kK [] out=0->dR out=zs.take at_->
 ((ph f out at_ zs).2.2=0/\kK [] (ph f out at_ zs).1=0/\dR (ph f out at_ zs).1=zs/\ (ph f out at_ zs).2.1=zs.length)\/
 ((ph f out at_ zs).2.2≠0/\ (ph f out at_ zs).1= []/\ (ph f out at_ zs).2.1<=zs.length)
 |0,out,at_,h,h',_,_=>by omega
 |f+1,out,at_,h,h',he,hb=>by
  by_cases h0:zs.length<=at_
  ·rw[rN h0];exact .inl ⟨rfl,he,by rw[hb,List.take_of_length_le h0],rfl⟩
  ·by_cases h1:mv (zs.drop at_)≠0
   ·rw[zT h0 h1];exact .inr ⟨h1,rfl,h'⟩
   ·by_cases h2:eI out (lQ (zs.drop at_))≠0
    ·rw[tD h0 (by simpa using h1) h2];exact .inr ⟨h2,rfl,h'⟩
    ·have T:= (vo _).1 (by simpa using h1);have hz':∀z∈zs.drop at_,0<=z/\z<=255:=fun z hz0=>hz z (List.mem_of_mem_drop hz0);obtain⟨t1,_⟩:=Md hz' T;have tp:=T.pos;have tl:=T.len;rw[List.length_drop]at tl;rw[yi h0 (by simpa using h1) (by simpa using h2)];refine wH zs hz f _ _ (by omega) (by omega) ?_ ?_
     ·rw[Bh,List.nil_append];refine⟨he,?_⟩;rw[gU,if_neg h2];rfl
     ·rw[nJ,hb,<- t1,List.take_add]
theorem tL:∀(rs before:List Rec) (f:Nat),rs.length<f->kK before rs=0->ph f before (dR before).length (dR before++dR rs) = (before++rs,(dR before++dR rs).length,0)
 | [],before,f,h,_=>by
  obtain⟨f,rfl⟩:∃g,f=g+1:=⟨f- 1,by simp at h;omega⟩;rw[nj,List.append_nil,List.append_nil,rN ah]
 |r::rs,before,f,h,he=>by
  obtain⟨f,rfl⟩:∃g,f=g+1:=⟨f- 1,by simp at h;omega⟩;rw[gU]at he;by_cases h1:eI before r≠0
  ·rw[if_pos h1]at he;exact absurd he h1
  ·rw[if_neg h1]at he;have G:=qi (oJ (by simpa using h1)).1;obtain⟨T,tR,tN⟩:=PV G (dR rs);have hd: (dR before++dR (r::rs)).drop (dR before).length=lA r++dR rs:=by rw[List.drop_left,iL]
   have hl: (lA r).length=lv r:=jf (by have:=G.mB;omega);have hp:1<=lv r:=by rw[<- tN];exact T.pos
   rw[yi (by rw[List.length_append,iL,List.length_append];omega) (by rw[hd];exact(vo _).2 T) (by rw[hd,tR];simpa using h1),hd,tR,tN,<- hl];have e1: (dR before).length+ (lA r).length= (dR (before++ [r])).length:=by rw[nJ,List.length_append]
   have e2:dR before++dR (r::rs) =dR (before++ [r]) ++dR rs:=by rw[nJ,iL,List.append_assoc]
   rw[e1,e2,tL rs (before++ [r]) f (by simp at h;omega) he,List.append_assoc,List.singleton_append]
theorem DY {rs:List Rec}(h:kK [] rs=0)(hl: (dR rs).length<=262144) :bh (dR rs) = (rs,(dR rs).length,0) :=by
 unfold bh;rw[if_neg (by omega)]
 have hp:∀(l b:List Rec),kK b l=0->l.length<= (dR l).length:=by
  intro l
  induction l with
  |nil=>intro b _;exact Nat.zero_le _
  |cons r l ih=>
   intro b hb;have G:= (kr _ _ hb r (List.mem_cons_self ..)).1;rw[gU]at hb;by_cases h1:eI b r≠0
   ·rw[if_pos h1]at hb;exact absurd hb h1
   ·rw[if_neg h1]at hb;have:=ih _ hb;rw[iL,List.length_append,List.length_cons,jf (by have:=G.mB;omega)];have:=Fw (rest:=mB r) (by have:=G.mB;omega);unfold lv;omega
 have:=tL rs [] ((dR rs).length+1) (by have:=hp rs [] h;omega) h;rw[nj,List.nil_append,List.nil_append]at this;exact this
theorem qw (zs:List Int)(hz:∀z∈zs,0<=z/\z<=255) : ((bh zs).2.2=0/\kK [] (bh zs).1=0/\dR (bh zs).1=zs/\ (bh zs).2.1=zs.length)\/ ((bh zs).2.2≠0/\ (bh zs).1= []/\ (bh zs).2.1<=zs.length) :=by
 unfold bh;by_cases h:262144<zs.length
 ·rw[if_pos h];exact .inr ⟨by decide,rfl,Nat.zero_le _⟩
 ·rw[if_neg h];exact wH zs hz (zs.length+1) [] 0 (by omega) (Nat.zero_le _) rfl (by rw[nj,List.take_zero])
end Go.Proofs.YtcjagakckffkiaaGreatDoor.bL
namespace Go.Proofs.YtcjagakckffkiaaGreatDoor
open Go.RowKit
theorem Nu:pC Tryz.prog 5 .u8 1:=Mm (by kernel_rfl)
theorem Oz:pC Tryz.prog 3 .i64 8:=Mm (by kernel_rfl)
def dN (cs:List Int)(r:Nat) :Int:=if cs.length=0 then 1048576 else max (cs.getD (r % cs.length) 0) 1
theorem jw (cs:List Int)(r:Nat) :1<=dN cs r:=by unfold dN;split<;>omega
def Dd (cs:List Int)(r:Nat) :Nat:=if cs.length=0 then 0 else r % cs.length
end Go.Proofs.YtcjagakckffkiaaGreatDoor
namespace Go.Proofs.YtcjagakckffkiaaGreatDoor
def ye (Z:List Int)(o:Nat)(err:Int) :List Int:=if err=0/\o+512<=Z.length then(Z.drop o).take 512 else []
def bM (Z:List Int)(E:Int)(o:Nat)(err:Int) :Int:=if err≠0 then err else if o+512<=Z.length then 0 else if E=4/\o<Z.length then 5 else E
def fu (Z:List Int)(o:Nat)(err:Int) :Nat:=if err≠0 then o else if o+512<=Z.length then o+512 else Z.length
theorem nY {Z:List Int}{o:Nat}{err:Int}(h:o<=Z.length) :fu Z o err<=Z.length:=by unfold fu;split;exact h;split<;>omega
theorem Er {Z:List Int}{E:Int}{o:Nat}{err:Int}(h:err≠0) :ye Z o err= []/\bM Z E o err=err/\fu Z o err=o:=by
 unfold ye bM fu;rw[if_neg (fun h'=>h h'.1),if_pos h,if_pos h];exact⟨rfl,rfl,rfl⟩
theorem fx {Z:List Int}{E:Int}{o:Nat}(h:o+512<=Z.length) :ye Z o 0= (Z.drop o).take 512/\bM Z E o 0=0/\fu Z o 0=o+512:=by
 unfold ye bM fu;rw[if_pos ⟨rfl,h⟩,if_neg (c:= (0:Int)≠0) (fun h=>h rfl),if_pos h,if_neg (c:= (0:Int)≠0) (fun h=>h rfl),if_pos h];exact⟨rfl,rfl,rfl⟩
theorem eR {Z:List Int}{E:Int}{o:Nat}(h:¬o+512<=Z.length) :ye Z o 0= []/\bM Z E o 0= (if E=4/\o<Z.length then 5 else E)/\fu Z o 0=Z.length:=by
 unfold ye bM fu;rw[if_neg (fun h'=>h h'.2),if_neg (c:= (0:Int)≠0) (fun h=>h rfl),if_neg h,if_neg (c:= (0:Int)≠0) (fun h=>h rfl),if_neg h];exact⟨rfl,rfl,rfl⟩
end Go.Proofs.YtcjagakckffkiaaGreatDoor
namespace Go.Proofs.YtcjagakckffkiaaGreatDoor
def aZ (s:Nat) :Nat:= (s+511) /512
theorem ny (s:Nat) :s<=512*aZ s:=by unfold aZ;omega
theorem uE (s:Nat) :512*aZ s<s+512:=by unfold aZ;omega
theorem DK {s:Nat}(h:0<s) :0<aZ s:=by unfold aZ;omega
theorem Ju {s:Nat}(h:s<=1099511627776) :aZ s<=2147483648:=by unfold aZ;omega
def dM (Z:List Int)(o:Nat)(err:Int)(n:Nat) :Prop:=n=0\/ (err=0/\o+512*n<=Z.length)
instance (Z:List Int) (o:Nat) (err:Int) (n:Nat) :Decidable (dM Z o err n) :=by unfold dM;infer_instance
def jY (Z:List Int)(E:Int)(o:Nat)(err:Int)(n:Nat) :Int:=if dM Z o err n then 0 else if err≠0 then err else if E=4/\ (Z.length- o) % 512≠0 then 5 else E
def rJ (Z:List Int)(o:Nat)(err:Int)(n:Nat) :Nat:=if dM Z o err n then o+512*n else if err≠0 then o else Z.length
def Ig (Z:List Int)(E:Int)(o:Nat)(err:Int)(n:Nat) :Int:=if dM Z o err n then err else jY Z E o err n
def JH (Z:List Int)(o:Nat)(err:Int)(n:Nat) :List Int:=if dM Z o err n then(Z.drop o).take (512*n)else []
theorem zB {Z:List Int}{E:Int}{o n:Nat}{err:Int}(h:dM Z o err n) :jY Z E o err n=0/\rJ Z o err n=o+512*n/\Ig Z E o err n=err/\JH Z o err n= (Z.drop o).take (512*n) :=by
 unfold jY rJ Ig JH;rw[if_pos h,if_pos h,if_pos h,if_pos h];exact⟨rfl,rfl,rfl,rfl⟩
theorem OH {Z:List Int}{E:Int}{o n:Nat}{err:Int}(he:err≠0)(hn:0<n) :jY Z E o err n=err/\rJ Z o err n=o/\Ig Z E o err n=err/\JH Z o err n= [] :=by
 have h:¬dM Z o err n:=fun h=>h.elim (fun h=>by omega) (fun h=>he h.1);have e:jY Z E o err n=err:=by unfold jY;rw[if_neg h,if_pos he]
 unfold Ig;rw[e];unfold rJ JH;rw[if_neg h,if_neg h,if_neg h,if_pos he];exact⟨rfl,rfl,rfl,rfl⟩
theorem Kb {Z:List Int}{E:Int}{o n j:Nat}(h1:o+512*j<=Z.length)(h2:¬o+512*j+512<=Z.length)(hj:j<n) :
 jY Z E o 0 n=bM Z E (o+512*j) 0/\rJ Z o 0 n=fu Z (o+512*j) 0/\Ig Z E o 0 n=bM Z E (o+512*j) 0/\JH Z o 0 n= [] :=by
 have h:¬dM Z o 0 n:=fun h=>h.elim (fun h=>by omega) (fun h=>by omega);obtain⟨_,g2,g3⟩:=eR (E:=E) h2
 have e:jY Z E o 0 n=bM Z E (o+512*j) 0:=by
  rw[g2];unfold jY;rw[if_neg h,if_neg (c:= (0:Int)≠0) (fun h=>h rfl)];by_cases e4:E=4/\o+512*j<Z.length
  ·rw[if_pos e4,if_pos ⟨e4.1,by omega⟩]
  ·rw[if_neg e4,if_neg (fun h=>e4 ⟨h.1,by omega⟩)]
 unfold Ig;rw[e,g3];unfold rJ JH;rw[if_neg h,if_neg h,if_neg h,if_neg (c:= (0:Int)≠0) (fun h=>h rfl)];exact⟨rfl,rfl,rfl,rfl⟩
theorem ry {Z:List Int}{E:Int}{o n:Nat}{err:Int}(hE:E=11\/E=4)(h:¬dM Z o err n) :jY Z E o err n≠0:=by
 unfold jY;rw[if_neg h];split
 ·assumption
 ·split<;>omega
theorem yJ {Z:List Int}{o n:Nat}{err:Int}(h:o<=Z.length) :rJ Z o err n<=Z.length:=by
 unfold rJ;split
 ·rename_i h';rcases h' with h'|h'<;>omega
 ·split<;>omega
def gx (P:List Int) :Nat:=P.findIdx (fun z=>z !=0)
theorem oG (P:List Int) :gx P<=P.length:=List.findIdx_le_length
theorem uC {P:List Int}(h:gx P<P.length) :P.getD (gx P) 0≠0:=by
 have h':=List.findIdx_getElem (p:=fun z=>z !=0) (xs:=P) (w:=h);rw[List.getD_eq_getElem?_getD,List.getElem?_eq_getElem h];intro h0;have h1:P[gx P] =0:=h0;have h2: (P[gx P] !=0) =true:=h';rw[h1]at h2;exact absurd h2 (by decide)
theorem kI {P:List Int}{i:Nat}(h:i<gx P) :P.getD i 0=0:=by
 have hl:i<P.length:=Nat.lt_of_lt_of_le h (oG P);have h':=List.not_of_lt_findIdx (p:=fun z=>z !=0) (xs:=P) h;rw[List.getD_eq_getElem?_getD,List.getElem?_eq_getElem hl]
 simpa using h'
theorem NH {P:List Int}{i:Nat}(h1:i<=P.length)(h2:∀j,j<i->P.getD j 0=0)(h3:i<P.length->P.getD i 0≠0) :gx P=i:=by
 rcases Nat.lt_trichotomy (gx P) i with h|h|h
 ·exact absurd (h2 _ h) (uC (by omega))
 ·exact h
 ·exact absurd (kI h) (h3 (Nat.lt_of_lt_of_le h (oG P)))
def dm (z:Int) :Prop:=z<0\/1099511627776<z
instance (z:Int) :Decidable (dm z) :=by unfold dm;infer_instance
def bj (Z:List Int)(o s:Nat) :List Int:= ((Z.drop o).take (512*aZ s)).drop s
def eO (Z:List Int)(E:Int)(o:Nat)(err z:Int) :Int:=
 if dm z then 3 else if dM Z o err (aZ z.toNat)then(if gx (bj Z o z.toNat) < (bj Z o z.toNat).length then 10 else 0)else if jY Z E o err (aZ z.toNat) =4 then 5 else jY Z E o err (aZ z.toNat)
def mw (Z:List Int)(o:Nat)(err z:Int) :Nat:=
 if dm z then o else if dM Z o err (aZ z.toNat)/\gx (bj Z o z.toNat) < (bj Z o z.toNat).length then o+ (z.toNat+gx (bj Z o z.toNat))else rJ Z o err (aZ z.toNat)
def gw (Z:List Int)(o:Nat)(err z:Int) :List Int:=
 if dm z then []else if dM Z o err (aZ z.toNat)/\¬gx (bj Z o z.toNat) < (bj Z o z.toNat).length then(Z.drop o).take z.toNat else []
def jQ (Z:List Int)(o:Nat)(err z:Int) :Nat:=if dm z then o else rJ Z o err (aZ z.toNat)
def nP (Z:List Int)(E:Int)(o:Nat)(err z:Int) :Int:=if dm z then err else Ig Z E o err (aZ z.toNat)
theorem lK {Z:List Int}{E:Int}{o:Nat}{err z:Int}(h:dm z) :eO Z E o err z=3/\mw Z o err z=o/\gw Z o err z= []/\jQ Z o err z=o/\nP Z E o err z=err:=by
 unfold eO mw gw jQ nP;rw[if_pos h,if_pos h,if_pos h,if_pos h,if_pos h];exact⟨rfl,rfl,rfl,rfl,rfl⟩
theorem NV {s:Nat}(h:s<=1099511627776) :¬dm (s:Int) :=by unfold dm;omega
theorem jM {Z:List Int}{E:Int}{o:Nat}{err:Int}{s n:Nat}(hs:s<=1099511627776)(hn:n=aZ s)(h:¬dM Z o err n) :eO Z E o err s= (if jY Z E o err n=4 then 5 else jY Z E o err n)/\mw Z o err s=rJ Z o err n/\gw Z o err s= []/\jQ Z o err s=rJ Z o err n/\nP Z E o err s=Ig Z E o err n:=by
 subst hn;have hb:=NV hs;have e: (s:Int).toNat=s:=rfl;have x1:¬(dM Z o err (aZ s)/\gx (bj Z o s) < (bj Z o s).length) :=fun h'=>h h'.1;have x2:¬(dM Z o err (aZ s)/\¬gx (bj Z o s) < (bj Z o s).length) :=fun h'=>h h'.1;unfold eO mw gw jQ nP;rw[e,if_neg hb,if_neg hb,if_neg hb,if_neg hb,if_neg hb,if_neg h,if_neg x1,if_neg x2];exact⟨rfl,rfl,rfl,rfl,rfl⟩
theorem gM {Z:List Int}{E:Int}{o:Nat}{err:Int}{s n:Nat}(hs:s<=1099511627776)(hn:n=aZ s)(h:dM Z o err n)(hi:gx (bj Z o s) < (bj Z o s).length) :eO Z E o err s=10/\mw Z o err s=o+ (s+gx (bj Z o s))/\gw Z o err s= []/\jQ Z o err s=o+512*n/\nP Z E o err s=err:=by
 subst hn;have hb:=NV hs;have e: (s:Int).toNat=s:=rfl;obtain⟨_,e2,e3,_⟩:=zB (E:=E) h;unfold eO mw gw jQ nP;rw[e,if_neg hb,if_neg hb,if_neg hb,if_neg hb,if_neg hb,if_pos h,if_pos hi,if_pos ⟨h,hi⟩,if_neg (fun h'=>h'.2 hi),e2,e3];exact⟨rfl,rfl,rfl,rfl,rfl⟩
theorem jN {Z:List Int}{E:Int}{o:Nat}{err:Int}{s n:Nat}(hs:s<=1099511627776)(hn:n=aZ s)(h:dM Z o err n)(hi:¬gx (bj Z o s) < (bj Z o s).length) :eO Z E o err s=0/\mw Z o err s=o+512*n/\gw Z o err s= (Z.drop o).take s/\jQ Z o err s=o+512*n/\nP Z E o err s=err:=by
 subst hn;have hb:=NV hs;have e: (s:Int).toNat=s:=rfl;obtain⟨_,e2,e3,_⟩:=zB (E:=E) h;unfold eO mw gw jQ nP;rw[e,if_neg hb,if_neg hb,if_neg hb,if_neg hb,if_neg hb,if_pos h,if_neg hi,if_neg (fun h'=>hi h'.2),if_pos ⟨h,hi⟩,e2,e3];exact⟨rfl,rfl,rfl,rfl,rfl⟩
theorem FC {Z:List Int}{o:Nat}{err z:Int}(h:o<=Z.length) :jQ Z o err z<=Z.length:=by
 unfold jQ;split
 ·exact h
 ·exact yJ h
theorem oF {Z:List Int}(h:Bytes Z)(o:Nat)(err z:Int) :Bytes (gw Z o err z) :=by
 unfold gw;split
 ·exact fun z hz=>by simp at hz
 ·split
  ·exact(h.drop o).take _
  ·exact fun z hz=>by simp at hz
theorem iS {Z:List Int}{o s:Nat}{err:Int}(h:dM Z o err (aZ s)) : (bj Z o s).length=512*aZ s- s/\ ((Z.drop o).take (512*aZ s)).length=512*aZ s:=by
 have hl: ((Z.drop o).take (512*aZ s)).length=512*aZ s:=by
  rw[List.length_take,List.length_drop];rcases h with h|h
  ·rw[h];omega
  ·omega
 unfold bj;rw[List.length_drop,hl];exact⟨rfl,rfl⟩
end Go.Proofs.YtcjagakckffkiaaGreatDoor
namespace Go.Proofs.YtcjagakckffkiaaGreatDoor
def full (F:Int)(L:Nat) :Prop:=0<=F/\F=L
instance (F:Int) (L:Nat) :Decidable (full F L) :=by unfold full;infer_instance
def oL (cs:List Int)(F:Int)(L r m:Nat) :Nat:=if m=0\/full F L then 0 else(min (min (m:Int) (dN cs r)) (if 0<=F then F- L else m)).toNat
def Fh (F:Int)(L m:Nat) :Int:=if m=0 then 0 else if full F L then 11 else 0
def Mu (F:Int)(L r m:Nat) :Nat:=if m=0\/full F L then r else r+1
theorem uI (cs:List Int)(F:Int)(L r m:Nat) :oL cs F L r m<=m:=by unfold oL;split<;>omega
theorem qd {cs:List Int}{F:Int}{L r m:Nat}(hm:m≠0)(hf:¬full F L)(hL:0<=F-> (L:Int)<=F) :1<=oL cs F L r m:=by
 have:=jw cs r;unfold full at hf;unfold oL;rw[if_neg (by unfold full;omega)]
 split<;>omega
theorem qt {cs:List Int}{F:Int}{L r m:Nat}(h0:0<=F)(hL: (L:Int)<=F) : ((L+oL cs F L r m:Nat) :Int)<=F:=by
 unfold oL
 split
 ·omega
 ·omega
def dX (F:Int)(L m:Nat) :Nat:=if 0<=F/\F- L<m then(F- L).toNat else m
def fv (F:Int)(L m:Nat) :Int:=if 0<=F/\F- L<m then 11 else 0
def lN (cs:List Int)(F:Int) :Nat->Nat->Nat->Nat->Nat
 |0,_,r,_=>r
 |f+1,L,r,m=>if m=0\/full F L then r else lN cs F f (L+oL cs F L r m) (r+1) (m- oL cs F L r m)
theorem oO (cs:List Int)(F:Int) :∀(f L r m:Nat),m<=f-> (0<=F-> (L:Int)<=F)->lN cs F f L r m=lN cs F m L r m
 |0,L,r,m,h,_=>by obtain rfl:m=0:=by omega
                  rfl
 |f+1,L,r,0,_,_=>by simp[lN]
 |f+1,L,r,m+1,h,hL=>by
  by_cases hf:full F L
  ·simp[lN,hf]
  ·have hk:=qd (cs:=cs) (r:=r) (m:=m+1) (by omega) hf hL;have hle:=uI cs F L r (m+1);have hL':0<=F-> ((L+oL cs F L r (m+1) :Nat) :Int)<=F:=fun h0=>qt h0 (hL h0);simp only[lN];have hn:¬(m+1=0\/full F L) :=fun h=>h.elim (by omega) hf;rw[if_neg hn,if_neg hn,oO cs F f _ _ _ (by omega) hL',oO cs F m _ _ _ (by omega) hL']
 termination_by f=>f
theorem CO {cs:List Int}{F:Int}{L r m:Nat}(hm:m≠0)(hf:¬full F L)(hL:0<=F-> (L:Int)<=F) :
 lN cs F m L r m=lN cs F (m- oL cs F L r m) (L+oL cs F L r m) (r+1) (m- oL cs F L r m) :=by
 have hk:=qd (cs:=cs) (r:=r) hm hf hL;have hL':0<=F-> ((L+oL cs F L r m:Nat) :Int)<=F:=fun h0=>qt h0 (hL h0);obtain⟨f,rfl⟩:∃f,m=f+1:=⟨m- 1,by omega⟩
 conv=>lhs;simp only[lN]
 rw[if_neg (fun h=>h.elim (by omega) hf),oO cs F f _ _ _ (by omega) hL']
theorem Cq (cs:List Int){F:Int}{L r m:Nat}(h:m=0\/full F L) :lN cs F m L r m=r:=by
 cases m with
 |zero=>rfl
 |succ m=>simp only[lN];rw[if_pos h]
theorem BT {cs:List Int}{F:Int}{L r m:Nat}(hL:0<=F-> (L:Int)<=F) :
 dX F L m=oL cs F L r m+dX F (L+oL cs F L r m) (m- oL cs F L r m)/\fv F (L+oL cs F L r m) (m- oL cs F L r m) =fv F L m:=by
 have h1:=uI cs F L r m;have h2:0<=F-> ((L+oL cs F L r m:Nat) :Int)<=F:=fun h0=>qt h0 (hL h0);generalize oL cs F L r m=k at*;unfold dX fv;constructor
 ·split<;>split<;>omega
 ·congr 1
  apply propext;omega
theorem KF (F:Int)(L m:Nat)(hL:0<=F-> (L:Int)<=F) :dX F L m<=m/\ (0<=F-> ((L+dX F L m:Nat) :Int)<=F) :=by
 unfold dX
 split<;>omega
end Go.Proofs.YtcjagakckffkiaaGreatDoor
namespace Go.Proofs.YtcjagakckffkiaaGreatDoor
def xg (F:Int)(L n:Nat)(err:Int) :Nat:=if err=0 then dX F L n else 0
def xd (F:Int)(L n:Nat)(err:Int) :Int:=if err=0 then fv F L n else err
def bU (o:Nat) :Nat:= (512- o % 512) % 512
end Go.Proofs.YtcjagakckffkiaaGreatDoor
namespace Go.Proofs.YtcjagakckffkiaaGreatDoor
theorem dZ (n:Nat) :n+bU n=512*aZ n:=by unfold bU aZ;omega
theorem JR {o n:Nat}(h:o % 512=0) :bU (o+n) =bU n:=by unfold bU;omega
theorem CJ (n i:Nat) : (ao n).getD i 0=0:=by
 unfold ao;rw[List.getD_eq_getElem?_getD,List.getElem?_replicate]
 split<;>rfl
theorem Cz (n:Nat) :gx (ao n) =n:=by
 have hl: (ao n).length=n:=al n;exact NH (by omega) (fun j _=>CJ n j) (fun h=>by omega)
theorem pZ {Z R y:List Int}{E:Int}{o p:Nat}(hZ:Z.drop o=y++ao p++R)(hp:p=bU y.length)(hs:y.length<=1099511627776)(ho:o<=Z.length) :
 eO Z E o 0 y.length=0/\mw Z o 0 y.length=o+ (y.length+p)/\gw Z o 0 y.length=y/\jQ Z o 0 y.length=o+ (y.length+p)/\nP Z E o 0 y.length=0:=by
 have hb:y.length+p=512*aZ y.length:=by rw[hp];exact dZ _
 have hlen:Z.length=o+ (y.length+p+R.length) :=by
  have h:=congrArg List.length hZ;rw[List.length_drop,List.length_append,List.length_append,al]at h;omega
 have hok:dM Z o 0 (aZ y.length) := .inr ⟨rfl,by omega⟩
 have hpad:bj Z o y.length=ao p:=by
  unfold bj;rw[hZ,<- hb,List.append_assoc,List.take_append,List.take_of_length_le (by omega),Nat.add_sub_cancel_left,List.take_append_of_le_length (by rw[al];omega),List.take_of_length_le (by rw[al];omega),List.drop_left]
 have hi:¬gx (bj Z o y.length) < (bj Z o y.length).length:=by rw[hpad,Cz,al];omega
 obtain⟨e1,e2,e3,e4,e5⟩:=jN (E:=E) hs rfl hok hi;refine⟨e1,by rw[e2,<- hb],?_,by rw[e4,<- hb],e5⟩;rw[e3,hZ,List.append_assoc,List.take_left]
end Go.Proofs.YtcjagakckffkiaaGreatDoor
