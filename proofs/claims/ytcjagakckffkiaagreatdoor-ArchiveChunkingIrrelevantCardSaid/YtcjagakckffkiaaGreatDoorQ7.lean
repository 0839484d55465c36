import Derived.Test.YtcjagakckffkiaaGreatDoorQ6
import Derived.Test.YtcjagakckffkiaaGreatDoorQ4
import Derived.Test.YtcjagakckffkiaaGreatDoorQ1
import Derived.Test.YtcjagakckffkiaaGreatDoorRows
import Derived.Test.YtcjagakckffkiaaGreatDoorQ0
import Derived.Deep.RegionLaw
import Derived.Deep.Matrix
import Derived.Deep.Grids
import Derived.SizedLaws
import Derived.Deep.Strs
set_option maxHeartbeats 16000000
namespace Go.Proofs.YtcjagakckffkiaaGreatDoor.Tre
open Go.RowKit Pnm Go.Proofs.YtcjagakckffkiaaGreatDoor.Fit
def iD (x:Nd) :dY:= {k:=x.k,p:=x.p,m:=x.m,t:=x.t,s:=if x.k=1 then(x.d.length:Int)else 0}
def eT (x:Nd) :Int:=
 if x.k<0\/2<x.k then 8 else if dn (iD x)≠0 then dn (iD x)else if x.k≠1/\x.d≠ []then 2 else if x.c<0\/ (x.k≠1/\x.c≠0)then 15 else 0
def Qy:Nd:= {k:=0,p:=emp,m:=0,t:=emp,d:= [],c:=0}
def nd (l:List Nd)(i:Nat) :Nd:= (l[i]?).getD Qy
theorem cw {l:List Nd}{i:Nat}(h:i<l.length) :nd l i=l[i] :=by unfold nd;rw[List.getElem?_eq_getElem h];rfl
theorem cK {l:List Nd}{i:Nat}(h:i<l.length) :nd l i∈l:=by rw[cw h];exact List.getElem_mem h
theorem th {l:List Nd}{x:Nd}(h:x∈l) :∃i,i<l.length/\nd l i=x:=by
 obtain⟨i,hi,rfl⟩:=List.getElem_of_mem h;exact⟨i,hi,cw hi⟩
def Iq (l:List Nd)(i:Nat) :Prop:=∃j,j<i/\ (nd l j).p= (nd l i).p
def CD (l:List Nd)(x:Nd) :Prop:=bh (key x) = []\/∃y∈l,y.k=0/\key y=bh (key x)
def Io (l:List Nd)(x:Nd) :Prop:=x.c≠0/\∃y,l.find? (fun y=>decide (y.c=x.c)) =some y/\¬(y.m=x.m/\y.d=x.d)
open Classical in
noncomputable def jo (l:List Nd)(i:Nat) :Int:=if Iq l i then 14 else if¬CD l (nd l i)then 13 else if Io l (nd l i)then 15 else 0
open Classical in
noncomputable def oc (f:Nat->Int) :Nat->Option Nat
 |0=>none
 |n+1=>match oc f n with
  |some i=>some i
  |none=>if f n=0 then none else some n
theorem fS {f:Nat->Int} :∀{n:Nat},oc f n=none↔∀i,i<n->f i=0
 |0=>⟨fun _ i h=>absurd h (Nat.not_lt_zero i),fun _=>rfl⟩
 |n+1=>by
  have ih:=fS (f:=f) (n:=n);rw[oc];constructor
  ·intro h i hi
   cases e:oc f n with
   |some j=>rw[e]at h;cases h
   |none=>
    rw[e]at h;by_cases c:f n=0
    ·by_cases hin:i<n
     ·exact ih.mp e i hin
     ·obtain rfl:i=n:=by omega
      exact c
    ·simp[c]at h
  ·intro h;rw[ih.mpr fun i hi=>h i (by omega)];simp[h n (by omega)]
theorem rP {f:Nat->Int}{i:Nat}(h:∀j,j<i->f j=0)(hi:f i≠0) :∀{n:Nat},i<n->oc f n=some i
 |0,hn=>absurd hn (Nat.not_lt_zero i)
 |n+1,hn=>by
  rw[oc];by_cases e:i=n
  ·subst e;rw[fS.mpr h];simp[hi]
  ·rw[rP h hi (n:=n) (by omega)]
theorem AZ {f:Nat->Int}{n i:Nat}(h:oc f n=some i) :i<n/\f i≠0/\∀j,j<i->f j=0:=by
 induction n with
 |zero=>cases h
 |succ n ih=>
  rw[oc]at h
  cases e:oc f n with
  |some j=>rw[e]at h;injection h with h;subst h;have:=ih e;exact⟨by omega,this.2⟩
  |none=>
   rw[e]at h;by_cases c:f n=0
   ·simp[c]at h
   ·simp[c]at h;subst h;exact⟨by omega,c,fS.mp e⟩
noncomputable def dA (l:List Nd) :Int×Int:=match oc (fun i=>eT (nd l i)) l.length with
 |some i=> ((i:Int),eT (nd l i))
 |none=>match oc (jo l) l.length with
  |some i=> ((i:Int),jo l i)
  |none=> ((l.length:Int),0)
theorem IA {l:List Nd}{i:Nat}(hi:i<l.length)(h:∀j,j<i->eT (nd l j) =0)(he:eT (nd l i)≠0) :dA l= ((i:Int),eT (nd l i)) :=by
 unfold dA;rw[rP (f:=fun i=>eT (nd l i)) h he hi]
theorem Ld {l:List Nd}{i:Nat}(ho:∀j,j<l.length->eT (nd l j) =0)(hi:i<l.length)(h:∀j,j<i->jo l j=0)(he:jo l i≠0) :dA l= ((i:Int),jo l i) :=by
 unfold dA;rw[fS.mpr ho,rP h he hi]
theorem qK {l:List Nd}(ho:∀j,j<l.length->eT (nd l j) =0)(h:∀j,j<l.length->jo l j=0) :dA l= ((l.length:Int),0) :=by
 unfold dA;rw[fS.mpr ho,fS.mpr h]
structure Aw (l:List Nd) :Prop where
 one:∀x∈l,eT x=0
 Qk:LF l
 par:∀x∈l,CD l x
 cls:∀x∈l,∀y∈l,x.c≠0->x.c=y.c->x.m=y.m/\x.d=y.d
theorem iP {l:List Nd}{i:Nat} :jo l i=0↔¬Iq l i/\CD l (nd l i)/\¬Io l (nd l i) :=by
 unfold jo;by_cases h1:Iq l i
 ·simp[h1]
 ·by_cases h2:CD l (nd l i)
  ·by_cases h3:Io l (nd l i) <;>simp[h1,h2,h3]
  ·simp[h1,h2]
theorem uU {l:List Nd} :LF l↔∀i,i<l.length->¬Iq l i:=by
 unfold LF;rw[List.pairwise_iff_getElem];constructor
 ·rintro h i hi ⟨j,hj,e⟩;rw[cw (by omega),cw hi]at e;exact h j i (by omega) hi hj e
 ·intro h i j hi hj hij e;exact h j hj ⟨i,hij,by rw[cw hi,cw hj];exact e⟩
theorem Aw.GU {l:List Nd}(h:∀x∈l,∀y∈l,x.c≠0->x.c=y.c->x.m=y.m/\x.d=y.d){x:Nd}(hx:x∈l) :¬Io l x:=by
 rintro⟨h0,y,hy,hn⟩;have e:y.c=x.c:=by have:=List.find?_some hy;exact of_decide_eq_true this
 exact hn (h y (List.mem_of_find?_eq_some hy) x hx (by rw[e];exact h0) e)
theorem yL {l:List Nd}{x:Nd}(hx:x∈l) :∃y,l.find? (fun y=>decide (y.c=x.c)) =some y:=by
 cases e:l.find? (fun y=>decide (y.c=x.c))with
 |some y=>exact⟨y,rfl⟩
 |none=>
  rw[List.find?_eq_none]at e;exact absurd (decide_eq_true rfl) (e x hx)
theorem rL {l:List Nd} : (dA l).2=0↔Aw l:=by
 constructor
 ·intro h;unfold dA at h
  cases e1:oc (fun i=>eT (nd l i)) l.length with
  |some i=>rw[e1]at h;exact absurd h (AZ e1).2.1
  |none=>
   rw[e1]at h
   cases e2:oc (jo l) l.length with
   |some i=>simp only[e2]at h;exact absurd h (AZ e2).2.1
   |none=>
    have h1:=fS.mp e1;have h2:=fS.mp e2;refine⟨fun x hx=>?_,uU.mpr fun i hi=> (iP.mp (h2 i hi)).1,fun x hx=>?_,fun x hx y hy h0 e=>?_⟩
    ·obtain⟨i,hi,rfl⟩:=th hx;exact h1 i hi
    ·obtain⟨i,hi,rfl⟩:=th hx;exact(iP.mp (h2 i hi)).2.1
    ·obtain⟨z,hz⟩:=yL hx;have hz':l.find? (fun z=>decide (z.c=y.c)) =some z:=by rw[<- e];exact hz
     obtain⟨i,hi,ei⟩:=th hx;obtain⟨j,hj,ej⟩:=th hy;have o1:= (iP.mp (h2 i hi)).2.2;have o2:= (iP.mp (h2 j hj)).2.2;rw[ei]at o1;rw[ej]at o2;have f1:z.m=x.m/\z.d=x.d:=Classical.byContradiction fun hn=>o1 ⟨h0,z,hz,hn⟩;have f2:z.m=y.m/\z.d=y.d:=Classical.byContradiction fun hn=>o2 ⟨by rw[<- e];exact h0,z,hz',hn⟩;exact⟨f1.1.symm.trans f2.1,f1.2.symm.trans f2.2⟩
 ·intro h;rw[qK (fun _ hj=>h.one _ (cK hj)) fun j hj=>iP.mpr ⟨uU.mp h.Qk j hj,h.par _ (cK hj),Aw.GU h.cls (cK hj)⟩]
theorem zC {l:List Nd}(h:Aw l) :dA l= ((l.length:Int),0) :=
 qK (fun _ hj=>h.one _ (cK hj)) fun j hj=>iP.mpr ⟨uU.mp h.Qk j hj,h.par _ (cK hj),Aw.GU h.cls (cK hj)⟩
def cs (l:List Nd) :List Int:=l.map Nd.c
def mu (l:List Nd)(x:Nd) :Nd:= {x with c:=num (cs l) x.c}
def canon (l:List Nd) :List Nd:= (fw l).map (mu (fw l))
theorem eZ (l:List Nd) : (canon l).length=l.length:=by unfold canon;rw[List.length_map,Ko]
theorem ME {l:List Nd}{f:Nd->Nd}{g:Int->Int}(h:∀x∈l,(f x).c=g x.c) :cs (l.map f) = (cs l).map g:=by
 unfold cs;rw[List.map_map,List.map_map];exact List.map_congr_left h
theorem oz (l:List Nd) :sC (canon l) :=by
 have h:=Ax l;unfold canon sC at*;rw[List.pairwise_map];exact h.imp fun{x y} h=>h
theorem pI (l:List Nd) :canon (canon l) =canon l:=by
 have e:fw (canon l) =canon l:=yV (oz l);show(fw (canon l)).map (mu (fw (canon l))) =canon l;rw[e];show((fw l).map (mu (fw l))).map (mu (canon l)) = (fw l).map (mu (fw l));rw[List.map_map];refine List.map_congr_left fun x hx=>?_;show mu (canon l) (mu (fw l) x) =mu (fw l) x;unfold mu;have ec:cs (canon l) = (cs (fw l)).map (num (cs (fw l))) :=ME fun x _=>rfl;rw[ec];show({x with c:=num _ (num (cs (fw l)) x.c)} :Nd) =_;rw[Lm (show x.c∈cs (fw l)from List.mem_map_of_mem (f:=Nd.c) hx)]
theorem Lq {x:Nd}{c:Int}(h:eT x=0)(hc:0<=c)(hz:x.c=0->c=0) :eT {x with c:=c} =0:=by
 unfold eT at*;have e:iD {x with c:=c} =iD x:=rfl;rw[e];by_cases h1:x.k<0\/2<x.k
 ·rw[if_pos h1]at h;cases h
 ·rw[if_neg h1]at h;by_cases h2:dn (iD x)≠0
  ·rw[if_pos h2]at h;exact absurd h h2
  ·rw[if_neg h2]at h;by_cases h3:x.k≠1/\x.d≠ []
   ·rw[if_pos h3]at h;cases h
   ·rw[if_neg h3]at h;by_cases h4:x.c<0\/ (x.k≠1/\x.c≠0)
    ·rw[if_pos h4]at h;cases h
    ·show(if x.k<0\/2<x.k then(8:Int)else if dn (iD x)≠0 then dn (iD x)else if x.k≠1/\x.d≠ []then 2 else if c<0\/ (x.k≠1/\c≠0)then 15 else 0) =0;rw[if_neg h1,if_neg h2,if_neg h3,if_neg];rintro(h5|⟨h5,h6⟩)
     ·omega
     ·exact h4 (.inr ⟨h5,fun e=>h6 (hz e)⟩)
theorem nw {x:Nd}(h:eT x=0) :0<=x.c/\ (x.k≠1->x.c=0)/\ (x.k≠1->x.d= [])/\0<=x.k/\x.k<=2/\zj (key x) =0:=by
 unfold eT at h;by_cases h1:x.k<0\/2<x.k
 ·rw[if_pos h1]at h;cases h
 ·rw[if_neg h1]at h;by_cases h2:dn (iD x)≠0
  ·rw[if_pos h2]at h;exact absurd h h2
  ·rw[if_neg h2]at h;by_cases h3:x.k≠1/\x.d≠ []
   ·rw[if_pos h3]at h;cases h
   ·rw[if_neg h3]at h;by_cases h4:x.c<0\/ (x.k≠1/\x.c≠0)
    ·rw[if_pos h4]at h;cases h
    ·exact⟨by omega,fun e=>Classical.byContradiction fun h=>h4 (.inr ⟨e,h⟩),fun e=>Classical.byContradiction fun h=>h3 ⟨e,h⟩,by omega,by omega,(dB.mp (Classical.not_not.mp h2)).path⟩
theorem sV {l:List Nd}(h:Aw l) :Aw (canon l) :=by
 have mem:∀{x},x∈canon l->∃y∈l,x=mu (fw l) y:=fun{x} hx=>by
  obtain⟨y,hy,rfl⟩:=List.mem_map.mp hx;exact⟨y,(Ay l y).mp hy,rfl⟩
 have mem':∀{y},y∈l->mu (fw l) y∈canon l:=fun{y} hy=>List.mem_map_of_mem (f:=mu (fw l)) ((Ay l y).mpr hy);refine⟨fun x hx=>?_,?_,fun x hx=>?_,fun x hx y hy h0 e=>?_⟩
 ·obtain⟨y,hy,rfl⟩:=mem hx;refine Lq (h.one y hy) (num_nonneg _ _) fun e=>?_;unfold num;rw[e,if_neg fun hm=>absurd hm.1 (by decide)]
 ·have h':=h.Qk.perm (nf l).symm;unfold canon LF at*;rw[List.pairwise_map];exact h'.imp fun{x y} h=>h
 ·obtain⟨y,hy,rfl⟩:=mem hx;rcases h.par y hy with e|⟨z,hz,hk,e⟩
  ·exact .inl e
  ·exact .inr ⟨mu (fw l) z,mem' hz,hk,e⟩
 ·obtain⟨a,ha,rfl⟩:=mem hx;obtain⟨b,hb,rfl⟩:=mem hy;have e':num (cs (fw l)) a.c=num (cs (fw l)) b.c:=e;have p1:0<num (cs (fw l)) a.c:=by have:=num_nonneg (cs (fw l)) a.c;have h1:num (cs (fw l)) a.c≠0:=h0;omega
  have m1:=fP.mp p1;have m2:=fP.mp (e'▸p1);exact h.cls a ha b hb (by have:=m1.1;omega) (qo m1 m2 e')
end Go.Proofs.YtcjagakckffkiaaGreatDoor.Tre
namespace Go.Proofs.YtcjagakckffkiaaGreatDoor.Flt
open Go.RowKit Go.Proofs.YtcjagakckffkiaaGreatDoor.Fit Pnm Tre
structure Mb where
 e:dY
 d:List Int
def mt (c:Int)(y:Nd) :Bool:=decide (0<y.c/\y.c=c)
def fr (C:List Nd)(i:Nat)(c:Int) :Option Nd:= (C.take i).find? (mt c)
def OG (x:Nd)(q:ByteArray) :Mb:=⟨⟨3,x.p,x.m,q,0⟩,[]⟩
def Fb (x:Nd) :Mb:=⟨iD x,x.d⟩
def mb (C:List Nd)(i:Nat) :Mb:=match fr C i (nd C i).c with|some y=>OG (nd C i) y.p|none=>Fb (nd C i)
def oE (C:List Nd) :List Mb:= (List.range C.length).map (mb C)
theorem dv (C:List Nd) : (oE C).length=C.length:=by unfold oE;rw[List.length_map,List.length_range]
theorem gp {C:List Nd}{i:Nat}(h:i<C.length) : (oE C)[i]? =some (mb C i) :=by
 unfold oE;rw[List.getElem?_map,List.getElem?_range h];rfl
theorem dU {C:List Nd}{i:Nat}{y:Nd}(h:fr C i (nd C i).c=some y) :mb C i=OG (nd C i) y.p:=by unfold mb;rw[h]
theorem dV {C:List Nd}{i:Nat}(h:fr C i (nd C i).c=none) :mb C i=Fb (nd C i) :=by unfold mb;rw[h]
theorem fi {C:List Nd}{i:Nat}{c:Int}(hi:i<=C.length) :fr C i c=none↔∀j,j<i->¬(0< (nd C j).c/\ (nd C j).c=c) :=by
 unfold fr;rw[List.find?_eq_none];constructor
 ·intro h j hj;have hl:j<C.length:=by omega
  have:=h (nd C j) (by rw[cw hl];exact List.mem_take_iff_getElem.mpr ⟨j,by omega,rfl⟩)
  simpa [mt]using this
 ·intro h y hy;obtain⟨j,hj,rfl⟩:=List.mem_take_iff_getElem.mp hy;have:=h j (by omega);rw[cw (by omega)]at this
  simpa [mt]using this
theorem kP {C:List Nd}{i:Nat}{c:Int}{y:Nd}(hi:i<=C.length)(h:fr C i c=some y) :∃r,r<i/\nd C r=y/\0<y.c/\y.c=c/\fr C r c=none:=by
 unfold fr at h;obtain⟨h1,r,hr,h2,h3⟩:=List.find?_eq_some_iff_getElem.mp h;have h1:0<y.c/\y.c=c:=of_decide_eq_true h1;have hr':r<i/\r<C.length:=by rw[List.length_take]at hr;omega
 rw[List.getElem_take]at h2;refine⟨r,hr'.1,by rw[cw hr'.2];exact h2,h1.1,h1.2,?_⟩;refine(fi (by omega)).mpr fun j hj hm=>?_;have:=h3 j hj;rw[List.getElem_take,<- cw (by omega)]at this;simp[mt]at this;rcases this with h|h
 ·have:=hm.1;omega
 ·exact h hm.2
theorem zL {C:List Nd}{i r:Nat}{c:Int}(hi:i<=C.length)(hr:r<i)(hp:0< (nd C r).c)(hc: (nd C r).c=c)(hn:fr C r c=none) :fr C i c=some (nd C r) :=by
 unfold fr;refine List.find?_eq_some_iff_getElem.mpr ⟨decide_eq_true ⟨hp,hc⟩,r,by rw[List.length_take];omega,by rw[List.getElem_take,cw (by omega)],fun j hj=>?_⟩;have:= (fi (by omega)).mp hn j hj;rw[List.getElem_take,<- cw (by omega)];simp only[mt,Bool.not_eq_true',decide_eq_false_iff_not];exact this
theorem zP {C:List Nd}{i:Nat}(hi:i<C.length)(c:Int) :fr C (i+1) c= (fr C i c).or (if 0< (nd C i).c/\ (nd C i).c=c then some (nd C i)else none) :=by
 unfold fr;rw[List.take_add_one,List.getElem?_eq_getElem hi,List.find?_append,<- cw hi]
 congr 1
 by_cases h:0< (nd C i).c/\ (nd C i).c=c
 ·rw[if_pos h];have h1:mt c (nd C i) =true:=decide_eq_true h;simp[h1]
 ·rw[if_neg h];have h1:mt c (nd C i) =false:=decide_eq_false h;simp[h1]
structure Can (C:List Nd) :Prop where
 v:Aw C
 s:sC C
 f:∀x∈C,num (cs C) x.c=x.c
theorem oj {l:List Nd}(h:Aw l) :Can (canon l) :=by
 refine⟨sV h,oz l,fun x hx=>?_⟩
 have e: (canon l).map (mu (canon l)) =canon l:=by
  have:=pI l;unfold canon at this⊢;rw[yV (by have:=oz l;unfold canon at this;exact this)]at this;exact this
 obtain⟨i,hi,rfl⟩:=List.getElem_of_mem hx;have h2: ((canon l).map (mu (canon l)))[i]? = (canon l)[i]? :=by rw[e]
 rw[List.getElem?_map,List.getElem?_eq_getElem hi]at h2;have h3:=Option.some.inj h2;exact congrArg Nd.c h3
theorem Can.lt {C:List Nd}(h:Can C){i j:Nat}(hij:i<j)(hj:j<C.length) :aP (key (nd C i)) (key (nd C j)) = -1:=by
 have h1:=List.pairwise_iff_getElem.mp h.s i j (by omega) hj hij;have h2:=List.pairwise_iff_getElem.mp h.v.Qk i j (by omega) hj hij;rw[<- cw (show i<C.length by omega),<- cw hj]at h1 h2;rcases gD (key (nd C i)) (key (nd C j))with e|e|e
 ·exact e
 ·exact absurd (eN ((cmp_eq _ _).mp e)) h2
 ·unfold Le at h1;omega
theorem Can.at_ {C:List Nd}(h:Can C){i j:Nat}(hi:i<C.length)(hj:j<C.length)(e: (nd C i).p= (nd C j).p) :i=j:=by
 rcases Nat.lt_trichotomy i j with l|l|l
 ·have:=h.lt l hj;unfold key at this;rw[e,(cmp_eq _ _).mpr rfl]at this;omega
 ·exact l
 ·have:=h.lt l hi;unfold key at this;rw[e,(cmp_eq _ _).mpr rfl]at this;omega
theorem Can.par {C:List Nd}(h:Can C){i:Nat}(hi:i<C.length) :bh (key (nd C i)) = []\/∃j,j<i/\ (nd C j).k=0/\key (nd C j) =bh (key (nd C i)) :=by
 rcases h.v.par _ (cK hi)with e|⟨y,hy,hk,e⟩
 ·exact .inl e
 obtain⟨j,hj,rfl⟩:=th hy;rcases(KE (key (nd C i))).2 with⟨_,e',_⟩|⟨_,e'⟩
 ·exact .inl e'
 refine .inr ⟨j,?_,hk,e⟩;have h1:aP (key (nd C j)) (key (nd C i)) = -1:=by rw[e'];rw[e];exact Ad _ _ _
 rcases Nat.lt_or_ge j i with l|l
 ·exact l
 ·rcases Nat.eq_or_lt_of_le l with l|l
  ·subst l;rw[(cmp_eq _ _).mpr rfl]at h1;omega
  ·have:=h.lt l hj;rw[fQ]at this;omega
theorem De {x:Nd}(h1:eT x=0) :dn (iD x) =0:=by
 unfold eT at h1
 split at h1
 ·omega
 ·split at h1
  ·rename_i h2;exact absurd h1 h2
  ·rename_i h2;exact Decidable.byContradiction h2
theorem Can.ck {C:List Nd}(h:Can C){i:Nat}(hi:i<C.length) :dn (mb C i).e=0:=by
 have h1:= (h.v.one _ (cK hi));have hck:=De h1
 cases e:fr C i (nd C i).c with
 |none=>rw[dV e];exact hck
 |some y=>
  rw[dU e];obtain⟨r,hr,rfl,hp,hc,_⟩:=kP (Nat.le_of_lt hi) e;have hy:=nw (h.v.one _ (cK (show r<C.length by omega)));have hok:=dB.mp hck;refine dB.mpr ⟨by show(0:Int)<=3;decide,by show(3:Int) <4;decide,hok.path,hok.m0,hok.m1,fun h=>absurd h (by show¬(3:Int) =2;decide),?_,rfl⟩;show vO 3 (nd C r).p=0;unfold vO;rw[if_neg (by decide),if_pos rfl];exact hy.2.2.2.2.2
theorem Can.OG {C:List Nd}(h:Can C){i:Nat}(hi:i<C.length){y:Nd}(e:fr C i (nd C i).c=some y) :∃r,r<i/\nd C r=y/\ (nd C r).k=1/\ (nd C i).k=1/\fr C r (nd C r).c=none/\ (nd C r).m= (nd C i).m/\ (nd C r).d= (nd C i).d/\0< (nd C r).c/\ (nd C r).c= (nd C i).c:=by
 obtain⟨r,hr,rfl,hp,hc,hn⟩:=kP (Nat.le_of_lt hi) e;have o1:=nw (h.v.one _ (cK (show r<C.length by omega)));have o2:=nw (h.v.one _ (cK hi));have k:=h.v.cls _ (cK (show r<C.length by omega)) _ (cK hi) (by omega) hc;refine⟨r,hr,rfl,?_,?_,by rw[hc];exact hn,k.1,k.2,hp,hc⟩
 ·exact Decidable.byContradiction fun hk=>by have:=o1.2.1 hk;omega
 ·exact Decidable.byContradiction fun hk=>by have:=o2.2.1 hk;omega
theorem sI (C:List Nd)(i:Nat) : (mb C i).e.p= (nd C i).p/\ (mb C i).e.m= (nd C i).m:=by
 cases e:fr C i (nd C i).c with
 |none=>rw[dV e];exact⟨rfl,rfl⟩
 |some y=>rw[dU e];exact⟨rfl,rfl⟩
theorem Can.k3 {C:List Nd}(h:Can C){i:Nat}(hi:i<C.length) : (mb C i).e.k=3↔∃y,fr C i (nd C i).c=some y:=by
 cases e:fr C i (nd C i).c with
 |none=>
  rw[dV e];have:=nw (h.v.one _ (cK hi));constructor
  ·intro h3;have: (nd C i).k=3:=h3;omega
  ·rintro⟨_,h⟩;cases h
 |some y=>rw[dU e];exact⟨fun _=>⟨y,rfl⟩,fun _=>rfl⟩
theorem LN {x y:Nd}(h1:x.k=y.k)(h2:x.p=y.p)(h3:x.m=y.m)(h4:x.t=y.t)(h5:x.d=y.d)(h6:x.c=y.c) :x=y:=by
 obtain⟨k,p,m,t,d,c⟩:=x;obtain⟨k',p',m',t',d',c'⟩:=y;dsimp only at*;subst h1;subst h2;subst h3;subst h4;subst h5;subst h6;rfl
theorem Gs {C D:List Nd}(_hC:Can C)(hD:Can D)(hm:oE C=oE D){i j:Nat}(hij:i<j)(hj:j<C.length)(h:0< (nd C i).c/\ (nd C i).c= (nd C j).c) :0< (nd D i).c/\ (nd D i).c= (nd D j).c:=by
 have hl:C.length=D.length:=by rw[<- dv C,hm,dv]
 have eq:∀k,k<C.length->mb C k=mb D k:=fun k hk=>by
  have h1:=gp hk;rw[hm,gp (by omega)]at h1;exact(Option.some.inj h1).symm
 have pe:∀k,k<C.length-> (nd C k).p= (nd D k).p:=fun k hk=>by rw[<- (sI C k).1,eq k hk,(sI D k).1]
 have key:∀k r,k<C.length->r<k->0< (nd C r).c-> (nd C r).c= (nd C k).c->fr C r (nd C k).c=none->0< (nd D r).c/\ (nd D r).c= (nd D k).c:=by
  intro k r hk hr hp hc hn;have e1:=zL (Nat.le_of_lt hk) hr hp hc hn;have m1:=dU e1;have k3: (mb D k).e.k=3:=by rw[<- eq k hk,m1];rfl
  obtain⟨y,e2⟩:= (hD.k3 (by omega)).mp k3;have m2:=dU e2;obtain⟨r',hr',rfl,hp',hc',_⟩:=kP (by omega) e2
  have e3: (nd C r).p= (nd D r').p:=by
   have: (mb C k).e.t= (mb D k).e.t:=by rw[eq k hk]
   rw[m1,m2]at this;exact this
  obtain rfl:r=r':=hD.at_ (by omega) (by omega) (by rw[<- pe r (by omega)];exact e3);exact⟨hp',hc'⟩
 cases e:fr C i (nd C i).c with
 |none=>exact key j i hj hij h.1 h.2 (by rw[<- h.2];exact e)
 |some y=>
  obtain⟨r,hr,rfl,hp,hc,hn⟩:=kP (by omega) e;have k1:=key i r (by omega) hr hp hc hn;have k2:=key j r hj (by omega) hp (hc.trans h.2) (by rw[<- h.2];exact hn);exact⟨by omega,by omega⟩
theorem Can.many {C:List Nd}(h:Can C){i:Nat}(hi:i<C.length) :0< (nd C i).c↔dy (cs C) (nd C i).c:=by
 rw[<- fP,h.f _ (cK hi)]
theorem gY {C:List Nd}{i:Nat}(hi:i<C.length) : (cs C)[i]? =some (nd C i).c:=by unfold cs;rw[List.getElem?_map,List.getElem?_eq_getElem hi,cw hi];rfl
theorem Na {l:List Int}{c:Int}(h:2<=l.count c){i:Nat}(_:l[i]? =some c) :∃j,j≠i/\l[j]? =some c:=by
 induction l generalizing i with
 |nil=>simp at h
 |cons x l ih=>
  cases i with
  |zero=>
   have hx:x=c:=by simpa using‹(x::l)[0]? =some c›
   subst hx;have:0<l.count x:=by rw[List.count_cons_self]at h;omega
   obtain⟨j,hj,e⟩:=List.getElem_of_mem (List.count_pos_iff.mp this);exact⟨j+1,by omega,by rw[List.getElem?_cons_succ,List.getElem?_eq_getElem hj,e]⟩
  |succ i=>
   by_cases hx:x=c
   ·exact⟨0,by omega,by simp[hx]⟩
   ·rw[List.count_cons_of_ne hx]at h;obtain⟨j,hj,e⟩:=ih h (i:=i) (by simpa using‹(x::l)[i+1]? =some c›);exact⟨j+1,by omega,by simpa using e⟩
theorem xR {C:List Nd}(h:Can C){i:Nat}(hi:i<C.length) :0< (nd C i).c↔∃j,j<C.length/\j≠i/\0< (nd C i).c/\ (nd C j).c= (nd C i).c:=by
 constructor
 ·intro hp;obtain⟨j,hj,e⟩:=Na ((h.many hi).mp hp).2 (gY hi)
  have hl:j<C.length:=by
   have:= (List.getElem?_eq_some_iff.mp e).1;unfold cs at this
   rwa [List.length_map]at this
  rw[gY hl]at e;exact⟨j,hl,hj,hp,Option.some.inj e⟩
 ·rintro⟨_,_,_,h,_⟩;exact h
theorem jB {C D:List Nd}(hC:Can C)(hD:Can D)(hm:oE C=oE D){i j:Nat}(hi:i<C.length)(hj:j<C.length) : (0< (nd C i).c/\ (nd C i).c= (nd C j).c)↔(0< (nd D i).c/\ (nd D i).c= (nd D j).c) :=by
 have hl:C.length=D.length:=by rw[<- dv C,hm,dv]
 have one:∀{C D:List Nd},Can C->Can D->oE C=oE D->∀{i j:Nat},i<C.length->j<C.length->i≠j-> (0< (nd C i).c/\ (nd C i).c= (nd C j).c)-> (0< (nd D i).c/\ (nd D i).c= (nd D j).c) :=by
  intro C D hC hD hm i j hi hj hij h;rcases Nat.lt_or_gt_of_ne hij with l|l
  ·exact Gs hC hD hm l hj h
  ·have:=Gs hC hD hm l hi ⟨by omega,h.2.symm⟩;exact⟨by omega,this.2.symm⟩
 by_cases hij:i=j
 ·subst hij;constructor
  ·rintro⟨hp,_⟩;obtain⟨j,hj,hn,_,e⟩:= (xR hC hi).mp hp;exact⟨(one hC hD hm hi hj (Ne.symm hn) ⟨hp,e.symm⟩).1,rfl⟩
  ·rintro⟨hp,_⟩;obtain⟨j,hj,hn,_,e⟩:= (xR hD (by omega)).mp hp;exact⟨(one hD hC hm.symm (by omega) hj (Ne.symm hn) ⟨hp,e.symm⟩).1,rfl⟩
 ·exact⟨one hC hD hm hi hj hij,one hD hC hm.symm (by omega) (by omega) hij⟩
theorem JF {C D:List Nd}(hC:Can C)(hD:Can D)(hm:oE C=oE D) :C=D:=by
 have hl:C.length=D.length:=by rw[<- dv C,hm,dv]
 have eq:∀k,k<C.length->mb C k=mb D k:=fun k hk=>by
  have h1:=gp hk;rw[hm,gp (by omega)]at h1;exact(Option.some.inj h1).symm
 have hc:∀i,i<C.length-> (nd C i).c= (nd D i).c:=by
  intro i hi
  let f:Int->Int:=fun a=> (cs D).getD ((cs C).idxOf a) 0
  have lC: (cs C).length=C.length:=by unfold cs;rw[List.length_map]
  have lD: (cs D).length=D.length:=by unfold cs;rw[List.length_map]
  have hf:∀j,j<C.length->f (nd C j).c= (nd D j).c:=by
   intro j hj;have hmem: (nd C j).c∈cs C:=List.mem_of_getElem? (gY hj);have hr: (cs C).idxOf (nd C j).c<C.length:=by rw[<- lC];exact List.idxOf_lt_length_iff.mpr hmem
   have hre: (nd C ((cs C).idxOf (nd C j).c)).c= (nd C j).c:=by
    have h1:=gY hr;rw[List.getElem?_eq_getElem (by omega)]at h1;rw[<- Option.some.inj h1];exact List.getElem_idxOf _
   show(cs D).getD ((cs C).idxOf (nd C j).c) 0=_;rw[List.getD_eq_getElem?_getD,gY (by omega)];show(nd D ((cs C).idxOf (nd C j).c)).c=_;generalize (cs C).idxOf (nd C j).c=r at hr hre;by_cases hp:0< (nd C r).c
   ·exact((jB hC hD hm hr hj).mp ⟨hp,hre⟩).2
   ·have n1:¬0< (nd D r).c:=fun h=>hp ((jB hC hD hm hr hr).mpr ⟨h,rfl⟩).1;have n2:¬0< (nd D j).c:=fun h=>hp (by rw[hre];exact((jB hC hD hm hj hj).mpr ⟨h,rfl⟩).1);have:= (nw (hD.v.one _ (cK (show r<D.length by omega)))).1;have:= (nw (hD.v.one _ (cK (show j<D.length by omega)))).1;omega
  have hmap:cs D= (cs C).map f:=by
   refine List.ext_getElem? fun j=>?_;by_cases hj:j<C.length
   ·rw[List.getElem?_map,gY hj,gY (by omega)];show some _=some _;rw[hf j hj]
   ·rw[List.getElem?_eq_none (by omega),List.getElem?_eq_none (by rw[List.length_map];omega)]
  have mem_of:∀a∈cs C,∃j,j<C.length/\ (nd C j).c=a:=fun a ha=>by
   obtain⟨j,hj,rfl⟩:=List.getElem_of_mem ha;have hj':j<C.length:=by omega
   refine⟨j,hj',?_⟩;have:=gY hj';rw[List.getElem?_eq_getElem hj]at this;exact(Option.some.inj this).symm
  have hn:=Jt (l:=cs C) (f:=f) (fun a ha=>by
   obtain⟨j,hj,rfl⟩:=mem_of a ha;rw[hf j hj];exact⟨fun h=> ((jB hC hD hm hj hj).mpr ⟨h,rfl⟩).1,fun h=> ((jB hC hD hm hj hj).mp ⟨h,rfl⟩).1⟩)
   (fun a ha b hb h1 h2 e=>by
     obtain⟨j,hj,rfl⟩:=mem_of a ha;obtain⟨k,hk,rfl⟩:=mem_of b hb;rw[hf j hj,hf k hk]at e;exact((jB hC hD hm hj hk).mpr ⟨((jB hC hD hm hj hj).mp ⟨h1,rfl⟩).1,e⟩).2)
   (a:= (nd C i).c) (List.mem_of_getElem? (gY hi))
  rw[<- hmap,hf i hi,hC.f _ (cK hi),hD.f _ (cK (show i<D.length by omega))]at hn;exact hn.symm
 have non:∀i,i<C.length->fr C i (nd C i).c=none->nd C i=nd D i:=by
  intro i hi e1;have e:=eq i hi;have c:=hc i hi
  cases e2:fr D i (nd D i).c with
  |some y=>
   have:= (hD.k3 (by omega)).mpr ⟨y,e2⟩;rw[<- e,hC.k3 hi,e1]at this;obtain⟨_,h⟩:=this;cases h
  |none=>
   rw[dV e1,dV e2]at e;have h1:iD (nd C i) =iD (nd D i) :=congrArg Mb.e e;have h2: (nd C i).d= (nd D i).d:=congrArg Mb.d e;have hk: (nd C i).k= (nd D i).k:=congrArg dY.k h1;have hp: (nd C i).p= (nd D i).p:=congrArg dY.p h1;have hm': (nd C i).m= (nd D i).m:=congrArg dY.m h1;have ht: (nd C i).t= (nd D i).t:=congrArg dY.t h1;exact LN hk hp hm' ht h2 c
 have tg0:∀{E:List Nd},Can E->∀{i},i<E.length-> (nd E i).k=1-> (nd E i).t=emp:=by
  intro E hE i hi hk;have h1:=kJ (dB.mp (De (hE.v.one _ (cK hi)))).tg;rcases h1.2.1 with h|h
  ·exact h.2.2
  ·have: (nd E i).k=2\/ (nd E i).k=3:=h.1;omega
 refine List.ext_getElem hl fun i hi hi'=>?_;rw[<- cw hi,<- cw hi']
 cases e1:fr C i (nd C i).c with
 |none=>exact non i hi e1
 |some y=>
  have e:=eq i hi;have h3:= (hC.k3 hi).mpr ⟨y,e1⟩;rw[e]at h3;obtain⟨z,e2⟩:= (hD.k3 hi').mp h3;obtain⟨r,hr,rfl,k1,k2,n1,m1,d1,_,_⟩:=hC.OG hi e1;obtain⟨q,hq,rfl,k1',k2',n2,m2,d2,_,_⟩:=hD.OG hi' e2;have ht: (mb C i).e.t= (mb D i).e.t:=by rw[e]
  have hp: (mb C i).e.p= (mb D i).e.p:=by rw[e]
  have hm': (mb C i).e.m= (mb D i).e.m:=by rw[e]
  rw[(sI C i).1,(sI D i).1]at hp;rw[(sI C i).2,(sI D i).2]at hm';rw[dU e1,dU e2]at ht;have hrn:=non r (by omega) n1;obtain rfl:r=q:=hD.at_ (by omega) (by omega) (by rw[<- hrn];exact ht);exact LN (by rw[k2,k2']) hp hm' (by rw[tg0 hC hi k2,tg0 hD hi' k2']) (by rw[<- d1,<- d2,hrn]) (hc i hi)
end Go.Proofs.YtcjagakckffkiaaGreatDoor.Flt
namespace Go.Proofs.YtcjagakckffkiaaGreatDoor
open Go.RowKit
theorem uN {xs ys:List Int}(hx:Bytes xs)(hy:Bytes ys)(h:¬xs=ys) :¬strOfNums xs=strOfNums ys:=fun e=>h (by
 have h1:=av hx;rw[e,av hy]at h1;exact h1.symm)
theorem oU {s t:ByteArray}(h:¬s=t) : (s.toList==t.toList) =false:=by
 rw[beq_eq_false_iff_ne]
 exact fun e=>h (by
  apply ByteArray.ext;apply Array.ext';rw[ByteArray.toList_eq,ByteArray.toList_eq]at e;exact e)
theorem tY (a:Option Addr)(n c:Nat)(xs:List Int)(b:Option Addr)(m d:Nat)(ys:List Int)(w:World)(h1:BytesIn w a xs)(l1:xs.length=n)(h2:BytesIn w b ys)(l2:ys.length=m) :
 Calls Tryz.prog 109 #[.slice a n c,.slice b m d] w fun e w'=>e= .returned (.bool (decide (xs=ys)))/\w=w':=by
 have q1: ((convert 25 9 (.slice a n c)).run Tryz.prog w) = .ok (.string (strOfNums xs)) w:=bF Tryz.underlying25 Tryz.underlying5 Tryz.underlying9 h1 n c l1;have q2: ((convert 25 9 (.slice b m d)).run Tryz.prog w) = .ok (.string (strOfNums ys)) w:=bF Tryz.underlying25 Tryz.underlying5 Tryz.underlying9 h2 m d l2;by_cases h:xs=ys
 ·subst h;obtain⟨s,hs⟩:=named (strOfNums xs);rw[<- hs.out]at q1 q2;rw[decide_eq_true rfl];clear h1 h2 l1 l2 hs;go_enter Tryz.func109,Tryz.ntmps109;go_wp2;go_ret;exact⟨rfl,rfl⟩
 ·have hne:=uN h1.bytes h2.bytes h;rw[decide_eq_false h];obtain⟨s,hs⟩:=named (strOfNums xs);obtain⟨t,ht⟩:=named (strOfNums ys);rw[<- hs.out]at q1 hne;rw[<- ht.out]at q2 hne;have hn:=oU hne;clear h1 h2 l1 l2 hs ht h;go_enter Tryz.func109,Tryz.ntmps109;go_wp2;go_ret;exact⟨rfl,rfl⟩
end Go.Proofs.YtcjagakckffkiaaGreatDoor
namespace Go.Proofs.YtcjagakckffkiaaGreatDoor
open Go.RowKit Go.ChangeShapes Go.Deep
theorem aB.below {k:IntKind}{w w':World}{a:Option Addr}{len cap:Nat}{zs:List Int}(h:aB k w a len cap zs)(hb:Below w.heap.size w w') :aB k w' a len cap zs:=by
 obtain⟨h1,h2,h3,h4,h5⟩:=h;refine⟨h1,h2,h3,h4,h5.imp id ?_⟩;rintro⟨b,off,h6,h7,h8⟩;exact⟨b,off,h6,Nat.lt_of_lt_of_le h7 hb.size,fun i hi=> (hb.cell (p:=⟨b,off+i,none⟩) h7).trans (h8 i hi)⟩
section
variable {H:Type} {enc:TypeId×Value->H} {P:Program} {w:World} {base:Nat} {held:Bool}
theorem kC {e:TypeId}{x:DataW H}{n:Nat}(hn:n∈x.weights P e) :∀l:List (DataW H),x∈l->n∈DataW.weightsAll P e l
 |y::r,h=>by
  simp only[DataW.weightsAll,List.mem_append];rcases List.mem_cons.1 h with rfl|h
  ·exact .inl hn
  ·exact .inr (kC hn r h)
end
end Go.Proofs.YtcjagakckffkiaaGreatDoor
namespace Go.Proofs.YtcjagakckffkiaaGreatDoor.Tre
open Go.RowKit Go.ChangeShapes Go.Deep
structure aL where
 n:Nd
 a:Option Addr
 cap:Nat
abbrev bq (k:Int)(p:ByteArray)(m:Int)(t:ByteArray)(a:Option Addr)(n cap:Nat)(c:Int) :List Value:= [.int .i64 k,.string p,.int .i64 m,.string t,.slice a n cap,.int .i64 c]
abbrev fy (y:aL) :List Value:=bq y.n.k y.n.p y.n.m y.n.t y.a y.n.d.length y.cap y.n.c
instance:Inhabited aL:=⟨⟨⟨0,⟨#[]⟩,0,⟨#[]⟩,[],0⟩,none,0⟩⟩
def ax (ys:List aL) :List Value:=ys.flatMap fy
theorem mL (y:aL)(ys:List aL) :ax (y::ys) =fy y++ax ys:=by unfold ax;rw[List.flatMap_cons]
theorem sk (xs ys:List aL) :ax (xs++ys) =ax xs++ax ys:=by unfold ax;rw[List.flatMap_append]
theorem eo:∀ys:List aL,(ax ys).length=ys.length*6
 | [] =>rfl
 |y::ys=>by
  rw[mL,List.length_append,eo ys,List.length_cons];simp;omega
theorem jt:∀(ys:List aL) (i:Nat) (y:aL),ys[i]? =some y->∀j v,(fy y)[j]? =some v-> (ax ys)[i*6+j]? =some v
 | [],i,y,h,_,_,_=>by simp at h
 |q::ys,i,y,h,j,v,hv=>by
  rw[mL]
  have hj:j<6:=by
   have:= (List.getElem?_eq_some_iff.mp hv).1
   simpa using this
  cases i with
  |zero=>
   simp at h;subst h;rw[Nat.zero_mul,Nat.zero_add,List.getElem?_append_left (by simpa using hj)];exact hv
  |succ i=>
   rw[List.getElem?_append_right (by simp;omega)];have:=jt ys i y (by simpa using h) j v hv;rw[<- this]
   congr 1
   simp;omega
def cL (w:World)(b off:Nat)(ys:List aL) :Prop:=∀i y,ys[i]? =some y->∀j v,(fy y)[j]? =some v->w.cell? ⟨b,off+i*6+j,none⟩=some v
theorem cL.c {w:World}{b off:Nat}{ys:List aL}(h:cL w b off ys){i:Nat}{y:aL}(hi:ys[i]? =some y) :
 w.cell? ⟨b,off+i*6,none⟩=some (.int .i64 y.n.k)/\w.cell? ⟨b,off+i*6+1,none⟩=some (.string y.n.p)/\w.cell? ⟨b,off+i*6+2,none⟩=some (.int .i64 y.n.m)/\w.cell? ⟨b,off+i*6+3,none⟩=some (.string y.n.t)/\w.cell? ⟨b,off+i*6+4,none⟩=some (.slice y.a y.n.d.length y.cap)/\w.cell? ⟨b,off+i*6+5,none⟩=some (.int .i64 y.n.c) :=
 ⟨h i y hi 0 _ rfl,h i y hi 1 _ rfl,h i y hi 2 _ rfl,h i y hi 3 _ rfl,h i y hi 4 _ rfl,h i y hi 5 _ rfl⟩
theorem cL.block {w w':World}{b off:Nat}{ys:List aL}(h:cL w b off ys)(e:w'.heap[b]? =w.heap[b]?) :cL w' b off ys:=fun i y hi j v hv=>by
 have:=h i y hi j v hv;unfold World.cell? at this⊢;rw[e];exact this
theorem cL.below {w w':World}{b off B:Nat}{ys:List aL}(h:cL w b off ys)(hb:Below B w w')(hB:b<B) :cL w' b off ys:=h.block (hb.block b hB)
def bY (w:World)(a:Option Addr)(ys:List aL) :Prop:=ys= []\/∃b off,a=some ⟨b,off,none⟩/\b<w.heap.size/\cL w b off ys
theorem bY.below {w w':World}{a:Option Addr}{ys:List aL}(h:bY w a ys)(hb:Below w.heap.size w w') :bY w' a ys:=by
 rcases h with h|⟨b,off,h1,h2,h3⟩
 ·exact .inl h
 ·exact .inr ⟨b,off,h1,Nat.lt_of_lt_of_le h2 hb.size,h3.below hb h2⟩
structure su (w:World) (y:aL) :Prop where
 k: (Lit.int .i64 y.n.k).wf=true
 p:y.n.p.size<=140737488355328
 m: (Lit.int .i64 y.n.m).wf=true
 t:y.n.t.size<=140737488355328
 d:aB .u8 w y.a y.n.d.length y.cap y.n.d
 l:y.n.d.length<=140737488355328
 c: (Lit.int .i64 y.n.c).wf=true
theorem su.below {w w':World}{y:aL}(h:su w y)(hb:Below w.heap.size w w') :su w' y:=⟨h.k,h.p,h.m,h.t,h.d.below hb,h.l,h.c⟩
structure br (w:World) (a:Option Addr) (len cap:Nat) (ys:List aL) :Prop where
 n:ys.length=len
 c:len<=cap
 m:cap<=maxLen
 r:bY w a ys
 s:∀y∈ys,su w y
theorem br.below {w w':World}{a:Option Addr}{len cap:Nat}{ys:List aL}(h:br w a len cap ys)(hb:Below w.heap.size w w') :br w' a len cap ys:=⟨h.n,h.c,h.m,h.r.below hb,fun y hy=> (h.s y hy).below hb⟩
theorem br.get {w:World}{a:Option Addr}{len cap:Nat}{ys:List aL}(h:br w a len cap ys)(i:Nat)(hi:i<len) :
 ∃b off y,a=some ⟨b,off,none⟩/\b<w.heap.size/\ys[i]? =some y/\su w y/\cL w b off ys:=by
 have hlt:i<ys.length:=by rw[h.n];exact hi
 have hg:ys[i]? =some ys[i] :=List.getElem?_eq_getElem hlt;rcases h.r with h0|⟨b,off,h1,h2,h3⟩
 ·simp[h0]at hlt
 ·exact⟨b,off,_,h1,h2,hg,h.s _ (List.getElem_mem _),h3⟩
def aI (ys:List aL) :List Nd:=ys.map aL.n
theorem bg (ys:List aL) : (aI ys).length=ys.length:=by unfold aI;rw[List.length_map]
theorem gj {ys:List aL}{i:Nat}{y:aL}(h:ys[i]? =some y) : (aI ys)[i]? =some y.n:=by unfold aI;rw[List.getElem?_map,h];rfl
section
variable {H:Type} {enc:TypeId×Value->H} {P:Program} {w:World} {base:Nat} {held:Bool}
theorem kh {t e q:TypeId}{f0 f1 f2 f3 f4 f5:Field}{a:Option Addr}{len cap:Nat}{d:DataW H}{p:List MemPlace}
 (ht:P.underlying t=some (.slice e))(he:P.underlying e=some (.struct #[f0,f1,f2,f3,f4,f5]))(h0:P.underlying f0.type=some (.int .i64))(h1:P.underlying f1.type=some .string)(h2:P.underlying f2.type=some (.int .i64))(h3:P.underlying f3.type=some .string)(h4:P.underlying f4.type=some (.slice q))(hq:P.underlying q=some (.int .u8))(h5:P.underlying f5.type=some (.int .i64))
 (hs: (P.cellsOf e,f0.offset,P.cellsOf f0.type,f1.offset,P.cellsOf f1.type,f2.offset,P.cellsOf f2.type,f3.offset,P.cellsOf f3.type,f4.offset,P.cellsOf f4.type,f5.offset,P.cellsOf f5.type) = (6,0,1,1,1,2,1,3,1,4,1,5,1))(hsq:P.cellsOf q=1)(hbq:P.bytesOf q=1)
 (h:DataW.Trod enc P w base (fun _=>true) held t (.slice a len cap) d p)(hw:∀n∈d.weights P t,n<=reachBytes) :∃ys,br w a len cap ys:=by
 simp only[Prod.mk.injEq]at hs;obtain⟨s,o0,z0,o1,z1,o2,z2,o3,z3,o4,z4,o5,z5⟩:=hs;obtain⟨fuel,hf⟩:=h;rcases open_slice ht hf with⟨hcs,_⟩|⟨x,len',cap',m,n,D,Pl,hcs,_,hl,hm,hmm,hd,hx⟩
 ·simp[Value.cells]at hcs;obtain⟨rfl,rfl,rfl⟩:=hcs;exact⟨[],rfl,ah,Nat.zero_le _,.inl rfl,fun _ h=>by cases h⟩
 ·simp[Value.cells]at hcs;obtain⟨rfl,rfl,rfl⟩:=hcs;simp only[if_true]at hmm;simp only[Prod.mk.injEq]at hd;obtain⟨rfl,_⟩:=hd;have hreach:=reachBytes_lt
  have each:∀i,i<m->∃y:aL,(∀j v,(fy y)[j]? =some v->w.cell? (x.add (i*6+j)) =some v)/\ (i<len->su w y) :=by
   intro i hi;obtain⟨cs',g1,g2⟩:=hx i hi;rw[s]at g1;obtain⟨_,hlen,hcell⟩:=World.cells?_some g1;obtain⟨xs,k,_,hxe,_,hxl,hfd⟩:=DataW.trod_struct he g2
   match cs',hlen with
   | [v0,v1,v2,v3,v4,v5],_=>
   match xs,hxl with
   | [y0,y1,y2,y3,y4,y5],_=>
   have u0:=hfd 0 f0 rfl;have u1:=hfd 1 f1 rfl;have u2:=hfd 2 f2 rfl;have u3:=hfd 3 f3 rfl;have u4:=hfd 4 f4 rfl;have u5:=hfd 5 f5 rfl;rw[o0,z0]at u0;rw[o1,z1]at u1;rw[o2,z2]at u2;rw[o3,z3]at u3;rw[o4,z4]at u4;rw[o5,z5]at u5;simp at u0 u1 u2 u3 u4 u5;obtain⟨k0,e0,x0,w0⟩:=DataW.trod_int h0 u0;obtain⟨k1,e1,x1,_⟩:=DataW.trod_string h1 u1;obtain⟨k2,e2,x2,w2⟩:=DataW.trod_int h2 u2;obtain⟨k3,e3,x3,_⟩:=DataW.trod_string h3 u3;obtain⟨k5,e5,x5,w5⟩:=DataW.trod_int h5 u5;simp only[List.cons.injEq,and_true]at e0 e1 e2 e3 e5;subst e0;subst e1;subst e2;subst e3;subst e5
   have c:∀j (h:j<6),w.cell? (x.add (i*6+j)) = [Value.int .i64 k0,.string k1,.int .i64 k2,.string k3,v4,.int .i64 k5][j]? :=fun j hj=>by
    rw[<- add_add];exact hcell j hj
   simp only[Prod.mk.injEq]at hxe
   have hmem:i<len->∀z,z∈(D i).weights P e->z<=reachBytes:=fun hil z hz=>hw z (by
    simp only[DataW.weights,ht,List.mem_cons,List.mem_append];exact .inr (.inl (kC (x:=D i) hz _ (List.mem_map.2 ⟨i,by simpa using hil,rfl⟩))))
   have hD:D i= .agg [.lit (.int .i64 k0),.lit (.string k1.data.toList),.lit (.int .i64 k2),.lit (.string k3.data.toList),y4.1,.lit (.int .i64 k5)] :=by
    rw[hxe.1,x0,x1,x2,x3,x5];rfl
   rcases open_ints h4 hq hsq u4 with⟨e4,x4⟩|⟨a4,l4,c4,zs,e4,_,hl4,hm4,hz4,x4,hcl,hwz⟩
   ·simp only[List.cons.injEq,and_true]at e4;subst e4;refine⟨⟨⟨k0,k1,k2,k3,[],k5⟩,none,0⟩,fun j v hv=>?_,fun hil=>?_⟩
    ·rw[c j (by simpa using (List.getElem?_eq_some_iff.mp hv).1)];exact hv
    ·have b1:=hmem hil k1.data.toList.length (by rw[hD];simp[DataW.weights,DataW.weightsEach,he]);have b3:=hmem hil k3.data.toList.length (by rw[hD];simp[DataW.weights,DataW.weightsEach,he]);rw[<- Lib.size_eq]at b1 b3;exact⟨w0,by show k1.size<=_;omega,w2,by show k3.size<=_;omega,aB.nil,Nat.zero_le _,w5⟩
   ·simp only[List.cons.injEq,and_true]at e4;subst e4;have hzl:zs.length=c4:=by simpa using hz4
    have htl: (zs.take l4).length=l4:=by rw[List.length_take];omega
    refine⟨⟨⟨k0,k1,k2,k3,zs.take l4,k5⟩,some a4,c4⟩,fun j v hv=>?_,fun hil=>?_⟩
    ·rw[c j (by simpa using (List.getElem?_eq_some_iff.mp hv).1),<- hv];show _= (bq k0 k1 k2 k3 (some a4) (zs.take l4).length c4 k5)[j]?;rw[htl]
    ·have b1:=hmem hil k1.data.toList.length (by rw[hD];simp[DataW.weights,DataW.weightsEach,he]);have b3:=hmem hil k3.data.toList.length (by rw[hD];simp[DataW.weights,DataW.weightsEach,he]);have b4:=hmem hil (((lits (H:=H) .u8 (zs.take l4)).length+ (lits (H:=H) .u8 (zs.drop l4)).length) *P.bytesOf q) (by rw[hD,x4];simp[DataW.weights,DataW.weightsEach,he,h4]);rw[<- Lib.size_eq]at b1 b3;rw[hbq]at b4;unfold lits at b4;rw[List.length_map,List.length_map]at b4;exact⟨w0,by show k1.size<=_;omega,w2,by show k3.size<=_;omega,by show aB _ _ _ (zs.take l4).length _ _;rw[htl];exact aB.mk' hl4 hm4 hzl hcl hwz,by show(zs.take l4).length<=_;omega,w5⟩
  obtain⟨A,hA⟩:=choose_lt each;refine⟨(List.range len).map A,by simp,hl,hm,?_,fun y hy=>?_⟩
  ·rcases Nat.eq_zero_or_pos len with h0'|h0'
   ·subst h0';exact .inl rfl
   ·have hc0:= (hA 0 (by omega)).1 0 _ rfl;obtain⟨b,off,spot⟩:=x;have hspot:spot=none:=by simpa [Addr.add]using World.cell?_spot hc0
    subst hspot;refine .inr ⟨b,off,rfl,?_,fun i y hy j v hv=>?_⟩
    ·exact World.block_lt_of_cell? w (⟨b,off,none⟩:Addr) (by simpa [Go.WideShapes.add_plain]using hc0)
    ·rw[List.getElem?_map]at hy
     have hi:i<len:=by
      rcases Nat.lt_or_ge i len with h|h
      ·exact h
      ·rw[List.getElem?_eq_none (by simpa using h)]at hy;cases hy
     rw[List.getElem?_range hi]at hy;obtain rfl:=Option.some.inj hy;have:= (hA i (by omega)).1 j v hv;rw[Go.WideShapes.add_plain]at this;rw[Nat.add_assoc];exact this
  ·obtain⟨r,hr',rfl⟩:=List.mem_map.1 hy;have hlt:r<len:=by simpa using hr'
   exact(hA r (by omega)).2 hlt
end
end Go.Proofs.YtcjagakckffkiaaGreatDoor.Tre
