import Derived.Test.YtcjagakckffkiaaGreatDoorQ1
set_option maxHeartbeats 16000000
namespace Go.Proofs.YtcjagakckffkiaaGreatDoor.Pnm
def cO:List Int->List (List Int)
 | [] => [[]]
 |z::zs=>if z=47 then [] ::cO zs else match cO zs with
  |c::cs=> (z::c) ::cs
  | [] => [[z]]
theorem rI (zs:List Int) :cO zs≠ [] :=by
 induction zs with
 |nil=>simp[cO]
 |cons z zs ih=>
  unfold cO
  split
  ·simp
  ·split<;>simp
theorem nV {c:List Int}(h: (47:Int)∉c) :cO c= [c] :=by
 induction c with
 |nil=>rfl
 |cons z zs ih=>
  have h1:¬z=47:=fun e=>h (by simp[e]);have h2: (47:Int)∉zs:=fun e=>h (List.mem_cons_of_mem _ e);unfold cO;rw[if_neg h1,ih h2]
theorem sX (a c:List Int) :cO (a++47::c) =cO a++cO c:=by
 induction a with
 |nil=>simp[cO]
 |cons z zs ih=>
  rw[List.cons_append];by_cases hz:z=47
  ·rw[cO,if_pos hz,ih]
   conv=>rhs;rw[cO,if_pos hz]
   rfl
  ·rw[cO,if_neg hz,ih]
   conv=>rhs;rw[cO,if_neg hz]
   cases h:cO zs with
   |nil=>exact absurd h (rI zs)
   |cons x xs=>rfl
theorem Cb {c rest:List Int}(h: (47:Int)∉c) :cO (c++47::rest) =c::cO rest:=by
 rw[sX,nV h];rfl
theorem sJ (zs:List Int) :∀c∈cO zs,(47:Int)∉c:=by
 induction zs with
 |nil=>intro c hc;simp[cO]at hc;subst hc;simp
 |cons z zs ih=>
  intro c hc;unfold cO at hc
  split at hc
  ·rcases List.mem_cons.1 hc with rfl|hc
   ·simp
   ·exact ih c hc
  ·rename_i hz
   split at hc
   ·rename_i x xs hx;rcases List.mem_cons.1 hc with rfl|hc
    ·have:=ih x (by rw[hx];simp);intro hm;rcases List.mem_cons.1 hm with e|hm
     ·exact hz e.symm
     ·exact this hm
    ·exact ih c (by rw[hx];exact List.mem_cons_of_mem _ hc)
   ·rename_i hx;exact absurd hx (rI zs)
def vt (c:List Int) :Prop:=c≠ []/\c≠ [46]/\c≠ [46,46]/\ (0:Int)∉c
instance (c:List Int) :Decidable (vt c) :=by unfold vt;infer_instance
def fL (zs:List Int) :Prop:=∀c∈cO zs,vt c
instance (zs:List Int) :Decidable (fL zs) :=by unfold fL;infer_instance
def zj (zs:List Int) :Int:=if 65536<zs.length then 7 else if fL zs then 0 else 6
theorem iM {zs:List Int} :zj zs=0↔zs.length<=65536/\fL zs:=by
 unfold zj;by_cases h:65536<zs.length
 ·rw[if_pos h];constructor
  ·intro e;cases e
  ·rintro⟨h1,_⟩;omega
 ·rw[if_neg h];by_cases h2:fL zs
  ·rw[if_pos h2];exact⟨fun _=>⟨by omega,h2⟩,fun _=>rfl⟩
  ·rw[if_neg h2];exact⟨fun e=> (by cases e),fun h'=>absurd h'.2 h2⟩
theorem yw (a c:List Int) :fL (a++47::c)↔fL a/\fL c:=by
 unfold fL;rw[sX];constructor
 ·exact fun h=>⟨fun x hx=>h x (List.mem_append_left _ hx),fun x hx=>h x (List.mem_append_right _ hx)⟩
 ·exact fun h x hx=> (List.mem_append.1 hx).elim (h.1 x) (h.2 x)
theorem rS {c:List Int}(h: (47:Int)∉c) :fL c↔vt c:=by
 unfold fL;rw[nV h];simp
def fl (zs:List Int) :Nat->Int
 |0=> -1
 |n+1=>if zs.getD n 0=47 then n else fl zs n
def fW (zs:List Int) :Int:=fl zs zs.length
theorem rR (zs:List Int) :∀n,-1<=fl zs n/\fl zs n<n
 |0=>by simp[fl]
 |n+1=>by
  have:=rR zs n;unfold fl
  split<;>omega
theorem qP (zs:List Int) :∀n,fl zs n= -1->∀i,i<n->zs.getD i 0≠47
 |0,_,i,hi=>by omega
 |n+1,h,i,hi=>by
  unfold fl at h
  split at h
  ·omega
  ·rename_i hn;by_cases e:i=n
   ·subst e;exact hn
   ·exact qP zs n h i (by omega)
theorem sd (zs:List Int) :∀(n k:Nat),fl zs n=k->zs.getD k 0=47/\k<n/\∀i,k<i->i<n->zs.getD i 0≠47
 |0,k,h=>by exfalso;unfold fl at h;omega
 |n+1,k,h=>by
  unfold fl at h
  split at h
  ·rename_i hn;obtain rfl:n=k:=by omega
   exact⟨hn,by omega,fun i h1 h2=>by omega⟩
  ·rename_i hn;obtain⟨h1,h2,h3⟩:=sd zs n k h;refine⟨h1,by omega,fun i hi hi2=>?_⟩;by_cases e:i=n
   ·subst e;exact hn
   ·exact h3 i hi (by omega)
def bh (zs:List Int) :List Int:=if fW zs<0 then []else zs.take (fW zs).toNat
def yI (zs:List Int) :List Int:=zs.drop (fW zs+1).toNat
theorem KE (zs:List Int) : (47:Int)∉yI zs/\ ((fW zs<0/\bh zs= []/\yI zs=zs)\/ (0<=fW zs/\zs=bh zs++47::yI zs)) :=by
 have mem:∀{l:List Int} {x:Int},x∈l->∃i,i<l.length/\l.getD i 0=x:=fun{l x} h=>by
  obtain⟨i,hi,e⟩:=List.getElem_of_mem h;exact⟨i,hi,by rw[List.getD_eq_getElem?_getD,List.getElem?_eq_getElem hi];exact e⟩
 have hb:=rR zs zs.length;by_cases h:fW zs<0
 ·have e:fl zs zs.length= -1:=by unfold fW at h;omega
  have e':yI zs=zs:=by unfold yI fW;rw[e];rfl
  refine⟨?_,.inl ⟨h,if_pos h,e'⟩⟩;rw[e'];intro hm;obtain⟨i,hi,hx⟩:=mem hm;exact qP zs zs.length e i hi hx
 ·obtain⟨k,hk⟩:∃k:Nat,fl zs zs.length=k:=⟨(fl zs zs.length).toNat,by unfold fW at h;omega⟩;obtain⟨h1,h2,h3⟩:=sd zs _ k hk;have e1:bh zs=zs.take k:=by unfold bh;rw[if_neg h];unfold fW;rw[hk];rfl
  have e2:yI zs=zs.drop (k+1) :=by unfold yI fW;rw[hk];rfl
  refine⟨?_,.inr ⟨by omega,?_⟩⟩
  ·rw[e2];intro hm;obtain⟨i,hi,hx⟩:=mem hm;rw[List.length_drop]at hi;rw[List.getD_eq_getElem?_getD,List.getElem?_drop,<- List.getD_eq_getElem?_getD]at hx;exact h3 (k+1+i) (by omega) (by omega) hx
  ·rw[e1,e2];have hg:zs[k] =47:=by rw[List.getD_eq_getElem?_getD,List.getElem?_eq_getElem h2]at h1;exact h1
   rw[<- hg,<- List.drop_eq_getElem_cons h2,List.take_append_drop]
def aP:List Int->List Int->Int
 | [],[] =>0
 | [],_::_=> -1
 |_::_,[] =>1
 |a::as,b::bs=>if a<b then-1 else if b<a then 1 else aP as bs
theorem gD:∀as bs:List Int,aP as bs= -1\/aP as bs=0\/aP as bs=1
 | [],[] =>by simp[aP]
 | [],_::_=>by simp[aP]
 |_::_,[] =>by simp[aP]
 |a::as,b::bs=>by
  unfold aP
  split
  ·simp
  ·split
   ·simp
   ·exact gD as bs
theorem fQ:∀as bs:List Int,aP as bs= - aP bs as
 | [],[] =>rfl
 | [],_::_=>rfl
 |_::_,[] =>rfl
 |a::as,b::bs=>by
  have ih:=fQ as bs;unfold aP;by_cases h1:a<b
  ·rw[if_pos h1,if_neg (by omega),if_pos h1]
  ·by_cases h2:b<a
   ·rw[if_neg h1,if_pos h2,if_pos h2];rfl
   ·rw[if_neg h1,if_neg h2,if_neg h2,if_neg h1];exact ih
theorem cmp_eq:∀as bs:List Int,aP as bs=0↔as=bs
 | [],[] =>by simp[aP]
 | [],_::_=>by simp[aP]
 |_::_,[] =>by simp[aP]
 |a::as,b::bs=>by
  have ih:=cmp_eq as bs;unfold aP;by_cases h1:a<b
  ·rw[if_pos h1];constructor
   ·intro e;cases e
   ·intro e;simp at e;omega
  ·by_cases h2:b<a
   ·rw[if_neg h1,if_pos h2];constructor
    ·intro e;cases e
    ·intro e;simp at e;omega
   ·rw[if_neg h1,if_neg h2,ih];obtain rfl:a=b:=by omega
    simp
theorem cY:∀as bs cs:List Int,aP as bs<=0->aP bs cs<=0->aP as cs<=0
 | [],_,[],_,_=>by simp[aP]
 | [],_,_::_,_,_=>by simp[aP]
 |_::_,[],_,h,_=>by simp[aP]at h
 |_::_,_::_,[],_,h=>by simp[aP]at h
 |a::as,b::bs,c::cs,h1,h2=>by
  unfold aP at h1 h2⊢;by_cases l1:a<b
  ·by_cases l2:b<c
   ·rw[if_pos (by omega)];decide
   ·rw[if_neg l2]at h2;by_cases l3:c<b
    ·rw[if_pos l3]at h2;omega
    ·rw[if_pos (by omega)];decide
  ·rw[if_neg l1]at h1;by_cases l4:b<a
   ·rw[if_pos l4]at h1;omega
   ·rw[if_neg l4]at h1;obtain rfl:a=b:=by omega
    by_cases l2:a<c
    ·rw[if_pos l2];decide
    ·rw[if_neg l2]at h2⊢;by_cases l3:c<a
     ·rw[if_pos l3]at h2;omega
     ·rw[if_neg l3]at h2⊢;exact cY as bs cs h1 h2
theorem Ad:∀(as:List Int) (b:Int) (bs:List Int),aP as (as++b::bs) = -1
 | [],_,_=>rfl
 |a::as,b,bs=>by
  rw[List.cons_append];unfold aP;rw[if_neg (by omega),if_neg (by omega)];exact Ad as b bs
def jO (a b:List Int) :List Int:=if a= []then b else a++47::b
def jT (zs:List Int)(i:Nat) :Prop:=1<=i/\i<=155/\i+1<zs.length/\zs.length- i- 1<=100/\zs.getD i 0=47
instance (zs:List Int) (i:Nat) :Decidable (jT zs i) :=by unfold jT;infer_instance
def oS (zs:List Int) :Option Nat:= (List.range 156).find? fun i=>decide (jT zs i)
theorem Cc {zs:List Int}{i:Nat}(h:oS zs=some i) :jT zs i/\∀j,j<i->¬jT zs j:=by
 unfold oS at h;have h1:=List.find?_some h;refine⟨by simpa using h1,fun j hj hs=>?_⟩;have:=List.find?_range_eq_some.1 h;have:=this.2.2 j hj;simp[hs]at this
theorem CH {zs:List Int}(h:oS zs=none) :∀i,¬jT zs i:=by
 intro i hs;unfold oS at h;rw[List.find?_eq_none]at h;exact h i (List.mem_range.2 (by have:=hs.2.1;omega)) (by simp[hs])
theorem yC {zs:List Int}{j:Nat}(h:jT zs j)(hn:∀k,k<j->¬jT zs k) :oS zs=some j:=by
 unfold oS;rw[List.find?_range_eq_some];exact⟨by simpa using h,List.mem_range.2 (by have:=h.2.1;omega),fun k hk=>by simp[hn k hk]⟩
theorem JU {zs:List Int}(h:∀k,¬jT zs k) :oS zs=none:=by
 unfold oS;rw[List.find?_eq_none];intro k _;simp[h k]
def fI (zs:List Int) :List Int:=if zs.length<=100 then []else match oS zs with|some i=>zs.take i|none=> []
def fJ (zs:List Int) :List Int:=if zs.length<=100 then zs else match oS zs with|some i=>zs.drop (i+1) |none=> []
def fX (zs:List Int) :Bool:=if zs.length<=100 then true else(oS zs).isSome
theorem CX {zs:List Int}(h:zs.length<=100) :fI zs= []/\fJ zs=zs/\fX zs=true:=by
 unfold fI fJ fX;rw[if_pos h,if_pos h,if_pos h];exact⟨rfl,rfl,rfl⟩
theorem EV {zs:List Int}(h:¬zs.length<=100) : (∃i,oS zs=some i/\jT zs i/\ (∀j,j<i->¬jT zs j)/\fI zs=zs.take i/\fJ zs=zs.drop (i+1)/\fX zs=true/\zs=zs.take i++47::zs.drop (i+1))\/
 ((∀i,¬jT zs i)/\fI zs= []/\fJ zs= []/\fX zs=false) :=by
 unfold fI fJ fX;rw[if_neg h,if_neg h,if_neg h]
 cases hs:oS zs with
 |none=>exact .inr ⟨CH hs,rfl,rfl,rfl⟩
 |some i=>
  obtain⟨h1,h2⟩:=Cc hs;refine .inl ⟨i,rfl,h1,h2,rfl,rfl,rfl,?_⟩;have hi:i<zs.length:=by have:=h1.2.2.1;omega
  have hg:zs[i] =47:=by have:=h1.2.2.2.2;rw[List.getD_eq_getElem?_getD,List.getElem?_eq_getElem hi]at this;exact this
  rw[<- hg,<- List.drop_eq_getElem_cons hi,List.take_append_drop]
end Go.Proofs.YtcjagakckffkiaaGreatDoor.Pnm
