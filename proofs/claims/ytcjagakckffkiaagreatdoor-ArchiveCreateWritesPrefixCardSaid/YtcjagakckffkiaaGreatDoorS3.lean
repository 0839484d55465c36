import Derived.Test.YtcjagakckffkiaaGreatDoorS2
set_option maxHeartbeats 16000000
set_option maxRecDepth 100000
namespace Go.Proofs.YtcjagakckffkiaaGreatDoor
namespace Pnm
def bZ:List Int->List (List Int)
 | [] => [[]]
 |z::zs=>if z=47 then [] ::bZ zs else match bZ zs with
  |c::cs=> (z::c) ::cs
  | [] => [[z]]
theorem lW (zs:List Int) :bZ zs≠ [] :=by
 induction zs with
 |nil=>simp[bZ]
 |cons z zs ih=>
  unfold bZ
  split
  ·simp
  ·split<;>simp
theorem kh {c:List Int}(h: (47:Int)∉c) :bZ c= [c] :=by
 induction c with
 |nil=>rfl
 |cons z zs ih=>
  have h1:¬z=47:=fun e=>h (by simp[e]);have h2: (47:Int)∉zs:=fun e=>h (List.mem_cons_of_mem _ e);unfold bZ;rw[if_neg h1,ih h2]
theorem oz (a c:List Int) :bZ (a++47::c) =bZ a++bZ c:=by
 induction a with
 |nil=>simp[bZ]
 |cons z zs ih=>
  rw[List.cons_append];by_cases hz:z=47
  ·rw[bZ,if_pos hz,ih]
   conv=>rhs;rw[bZ,if_pos hz]
   rfl
  ·rw[bZ,if_neg hz,ih]
   conv=>rhs;rw[bZ,if_neg hz]
   cases h:bZ zs with
   |nil=>exact absurd h (lW zs)
   |cons x xs=>rfl
theorem vf {c rest:List Int}(h: (47:Int)∉c) :bZ (c++47::rest) =c::bZ rest:=by
 rw[oz,kh h];rfl
theorem nX (zs:List Int) :∀c∈bZ zs,(47:Int)∉c:=by
 induction zs with
 |nil=>intro c hc;simp[bZ]at hc;subst hc;simp
 |cons z zs ih=>
  intro c hc;unfold bZ at hc
  split at hc
  ·rcases List.mem_cons.1 hc with rfl|hc
   ·simp
   ·exact ih c hc
  ·rename_i hz
   split at hc
   ·rename_i x xs hx;rcases List.mem_cons.1 hc with rfl|hc
    ·have:=ih x (by rw[hx];simp);intro hm;rcases List.mem_cons.1 hm with e|hm
     ·exact hz e.symm
     ·exact this hm
    ·exact ih c (by rw[hx];exact List.mem_cons_of_mem _ hc)
   ·rename_i hx;exact absurd hx (lW zs)
def fB (c:List Int) :Prop:=c≠ []/\c≠ [46]/\c≠ [46,46]/\ (0:Int)∉c
instance (c:List Int) :Decidable (fB c) :=by unfold fB;infer_instance
def cu (zs:List Int) :Prop:=∀c∈bZ zs,fB c
instance (zs:List Int) :Decidable (cu zs) :=by unfold cu;infer_instance
def nV (zs:List Int) :Int:=if 65536<zs.length then 7 else if cu zs then 0 else 6
theorem jh {zs:List Int} :nV zs=0↔zs.length<=65536/\cu zs:=by
 unfold nV;by_cases h:65536<zs.length
 ·rw[if_pos h];constructor
  ·intro e;cases e
  ·rintro⟨h1,_⟩;omega
 ·rw[if_neg h];by_cases h2:cu zs
  ·rw[if_pos h2];exact⟨fun _=>⟨by omega,h2⟩,fun _=>rfl⟩
  ·rw[if_neg h2];exact⟨fun e=> (by cases e),fun h'=>absurd h'.2 h2⟩
theorem ng (a c:List Int) :cu (a++47::c)↔cu a/\cu c:=by
 unfold cu;rw[oz];constructor
 ·exact fun h=>⟨fun x hx=>h x (List.mem_append_left _ hx),fun x hx=>h x (List.mem_append_right _ hx)⟩
 ·exact fun h x hx=> (List.mem_append.1 hx).elim (h.1 x) (h.2 x)
theorem gD {c:List Int}(h: (47:Int)∉c) :cu c↔fB c:=by
 unfold cu;rw[kh h];simp
def de (zs:List Int) :Nat->Int
 |0=> -1
 |n+1=>if zs.getD n 0=47 then n else de zs n
def dB (zs:List Int) :Int:=de zs zs.length
theorem jy (zs:List Int) :∀n,-1<=de zs n/\de zs n<n
 |0=>by simp[de]
 |n+1=>by
  have:=jy zs n;unfold de
  split<;>omega
theorem mE (zs:List Int) :∀n,de zs n= -1->∀i,i<n->zs.getD i 0≠47
 |0,_,i,hi=>by omega
 |n+1,h,i,hi=>by
  unfold de at h
  split at h
  ·omega
  ·rename_i hn;by_cases e:i=n
   ·subst e;exact hn
   ·exact mE zs n h i (by omega)
theorem mG (zs:List Int) :∀(n k:Nat),de zs n=k->zs.getD k 0=47/\k<n/\∀i,k<i->i<n->zs.getD i 0≠47
 |0,k,h=>by exfalso;unfold de at h;omega
 |n+1,k,h=>by
  unfold de at h
  split at h
  ·rename_i hn;obtain rfl:n=k:=by omega
   exact⟨hn,by omega,fun i h1 h2=>by omega⟩
  ·rename_i hn;obtain⟨h1,h2,h3⟩:=mG zs n k h;refine⟨h1,by omega,fun i hi hi2=>?_⟩;by_cases e:i=n
   ·subst e;exact hn
   ·exact h3 i hi (by omega)
def dt (zs:List Int) :List Int:=if dB zs<0 then []else zs.take (dB zs).toNat
def sn (zs:List Int) :List Int:=zs.drop (dB zs+1).toNat
theorem Ba (zs:List Int) : (47:Int)∉sn zs/\ ((dB zs<0/\dt zs= []/\sn zs=zs)\/ (0<=dB zs/\zs=dt zs++47::sn zs)) :=by
 have mem:∀{l:List Int} {x:Int},x∈l->∃i,i<l.length/\l.getD i 0=x:=fun{l x} h=>by
  obtain⟨i,hi,e⟩:=List.getElem_of_mem h;exact⟨i,hi,by rw[List.getD_eq_getElem?_getD,List.getElem?_eq_getElem hi];exact e⟩
 have hb:=jy zs zs.length;by_cases h:dB zs<0
 ·have e:de zs zs.length= -1:=by unfold dB at h;omega
  have e':sn zs=zs:=by unfold sn dB;rw[e];rfl
  refine⟨?_,.inl ⟨h,if_pos h,e'⟩⟩;rw[e'];intro hm;obtain⟨i,hi,hx⟩:=mem hm;exact mE zs zs.length e i hi hx
 ·obtain⟨k,hk⟩:∃k:Nat,de zs zs.length=k:=⟨(de zs zs.length).toNat,by unfold dB at h;omega⟩;obtain⟨h1,h2,h3⟩:=mG zs _ k hk;have e1:dt zs=zs.take k:=by unfold dt;rw[if_neg h];unfold dB;rw[hk];rfl
  have e2:sn zs=zs.drop (k+1) :=by unfold sn dB;rw[hk];rfl
  refine⟨?_,.inr ⟨by omega,?_⟩⟩
  ·rw[e2];intro hm;obtain⟨i,hi,hx⟩:=mem hm;rw[List.length_drop]at hi;rw[List.getD_eq_getElem?_getD,List.getElem?_drop,<- List.getD_eq_getElem?_getD]at hx;exact h3 (k+1+i) (by omega) (by omega) hx
  ·rw[e1,e2];have hg:zs[k] =47:=by rw[List.getD_eq_getElem?_getD,List.getElem?_eq_getElem h2]at h1;exact h1
   rw[<- hg,<- List.drop_eq_getElem_cons h2,List.take_append_drop]
def aR:List Int->List Int->Int
 | [],[] =>0
 | [],_::_=> -1
 |_::_,[] =>1
 |a::as,b::bs=>if a<b then-1 else if b<a then 1 else aR as bs
theorem fq:∀as bs:List Int,aR as bs= -1\/aR as bs=0\/aR as bs=1
 | [],[] =>by simp[aR]
 | [],_::_=>by simp[aR]
 |_::_,[] =>by simp[aR]
 |a::as,b::bs=>by
  unfold aR
  split
  ·simp
  ·split
   ·simp
   ·exact fq as bs
theorem fe:∀as bs:List Int,aR as bs= - aR bs as
 | [],[] =>rfl
 | [],_::_=>rfl
 |_::_,[] =>rfl
 |a::as,b::bs=>by
  have ih:=fe as bs;unfold aR;by_cases h1:a<b
  ·rw[if_pos h1,if_neg (by omega),if_pos h1]
  ·by_cases h2:b<a
   ·rw[if_neg h1,if_pos h2,if_pos h2];rfl
   ·rw[if_neg h1,if_neg h2,if_neg h2,if_neg h1];exact ih
theorem cmp_eq:∀as bs:List Int,aR as bs=0↔as=bs
 | [],[] =>by simp[aR]
 | [],_::_=>by simp[aR]
 |_::_,[] =>by simp[aR]
 |a::as,b::bs=>by
  have ih:=cmp_eq as bs;unfold aR;by_cases h1:a<b
  ·rw[if_pos h1];constructor
   ·intro e;cases e
   ·intro e;simp at e;omega
  ·by_cases h2:b<a
   ·rw[if_neg h1,if_pos h2];constructor
    ·intro e;cases e
    ·intro e;simp at e;omega
   ·rw[if_neg h1,if_neg h2,ih];obtain rfl:a=b:=by omega
    simp
theorem cm:∀as bs cs:List Int,aR as bs<=0->aR bs cs<=0->aR as cs<=0
 | [],_,[],_,_=>by simp[aR]
 | [],_,_::_,_,_=>by simp[aR]
 |_::_,[],_,h,_=>by simp[aR]at h
 |_::_,_::_,[],_,h=>by simp[aR]at h
 |a::as,b::bs,c::cs,h1,h2=>by
  unfold aR at h1 h2⊢;by_cases l1:a<b
  ·by_cases l2:b<c
   ·rw[if_pos (by omega)];decide
   ·rw[if_neg l2]at h2;by_cases l3:c<b
    ·rw[if_pos l3]at h2;omega
    ·rw[if_pos (by omega)];decide
  ·rw[if_neg l1]at h1;by_cases l4:b<a
   ·rw[if_pos l4]at h1;omega
   ·rw[if_neg l4]at h1;obtain rfl:a=b:=by omega
    by_cases l2:a<c
    ·rw[if_pos l2];decide
    ·rw[if_neg l2]at h2⊢;by_cases l3:c<a
     ·rw[if_pos l3]at h2;omega
     ·rw[if_neg l3]at h2⊢;exact cm as bs cs h1 h2
theorem tP:∀(as:List Int) (b:Int) (bs:List Int),aR as (as++b::bs) = -1
 | [],_,_=>rfl
 |a::as,b,bs=>by
  rw[List.cons_append];unfold aR;rw[if_neg (by omega),if_neg (by omega)];exact tP as b bs
def DZ (a b:List Int) :List Int:=if a= []then b else a++47::b
def fm (zs:List Int)(i:Nat) :Prop:=1<=i/\i<=155/\i+1<zs.length/\zs.length- i- 1<=100/\zs.getD i 0=47
instance (zs:List Int) (i:Nat) :Decidable (fm zs i) :=by unfold fm;infer_instance
def kD (zs:List Int) :Option Nat:= (List.range 156).find? fun i=>decide (fm zs i)
theorem vU {zs:List Int}{i:Nat}(h:kD zs=some i) :fm zs i/\∀j,j<i->¬fm zs j:=by
 unfold kD at h;have h1:=List.find?_some h;refine⟨by simpa using h1,fun j hj hs=>?_⟩;have:=List.find?_range_eq_some.1 h;have:=this.2.2 j hj;simp[hs]at this
theorem vT {zs:List Int}(h:kD zs=none) :∀i,¬fm zs i:=by
 intro i hs;unfold kD at h;rw[List.find?_eq_none]at h;exact h i (List.mem_range.2 (by have:=hs.2.1;omega)) (by simp[hs])
theorem nC {zs:List Int}{j:Nat}(h:fm zs j)(hn:∀k,k<j->¬fm zs k) :kD zs=some j:=by
 unfold kD;rw[List.find?_range_eq_some];exact⟨by simpa using h,List.mem_range.2 (by have:=h.2.1;omega),fun k hk=>by simp[hn k hk]⟩
theorem uF {zs:List Int}(h:∀k,¬fm zs k) :kD zs=none:=by
 unfold kD;rw[List.find?_eq_none];intro k _;simp[h k]
def dO (zs:List Int) :List Int:=if zs.length<=100 then []else match kD zs with|some i=>zs.take i|none=> []
def dN (zs:List Int) :List Int:=if zs.length<=100 then zs else match kD zs with|some i=>zs.drop (i+1) |none=> []
def eV (zs:List Int) :Bool:=if zs.length<=100 then true else(kD zs).isSome
theorem vV {zs:List Int}(h:zs.length<=100) :dO zs= []/\dN zs=zs/\eV zs=true:=by
 unfold dO dN eV;rw[if_pos h,if_pos h,if_pos h];exact⟨rfl,rfl,rfl⟩
theorem yR {zs:List Int}(h:¬zs.length<=100) : (∃i,kD zs=some i/\fm zs i/\ (∀j,j<i->¬fm zs j)/\dO zs=zs.take i/\dN zs=zs.drop (i+1)/\eV zs=true/\zs=zs.take i++47::zs.drop (i+1))\/
 ((∀i,¬fm zs i)/\dO zs= []/\dN zs= []/\eV zs=false) :=by
 unfold dO dN eV;rw[if_neg h,if_neg h,if_neg h]
 cases hs:kD zs with
 |none=>exact .inr ⟨vT hs,rfl,rfl,rfl⟩
 |some i=>
  obtain⟨h1,h2⟩:=vU hs;refine .inl ⟨i,rfl,h1,h2,rfl,rfl,rfl,?_⟩;have hi:i<zs.length:=by have:=h1.2.2.1;omega
  have hg:zs[i] =47:=by have:=h1.2.2.2.2;rw[List.getD_eq_getElem?_getD,List.getElem?_eq_getElem hi]at this;exact this
  rw[<- hg,<- List.drop_eq_getElem_cons hi,List.take_append_drop]
end Pnm
end Go.Proofs.YtcjagakckffkiaaGreatDoor
