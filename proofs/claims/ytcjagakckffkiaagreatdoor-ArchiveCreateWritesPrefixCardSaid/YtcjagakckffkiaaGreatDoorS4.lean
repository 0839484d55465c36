import Derived.Test.YtcjagakckffkiaaGreatDoorS3
import Derived.Lib.ParseIntBTie
import Derived.Lib.AtoiTie
set_option maxHeartbeats 16000000
set_option maxRecDepth 100000
namespace Go.Proofs.YtcjagakckffkiaaGreatDoor
namespace Fit
open Go.Lib Go.RowKit Pxr Pnm
structure fM where
 k:Int
 p:ByteArray
 m:Int
 t:ByteArray
 s:Int
structure Hd where
 T:Int
 nm:ByteArray
 pf:ByteArray
 lk:ByteArray
 md:Int
 sz:Int
abbrev emp:ByteArray:= {data:= #[]}
def we (k:Int) :Int:=if k=0 then 53 else if k=1 then 48 else if k=2 then 50 else 49
def Gg (T:Int) :Int:=if T=53 then 0 else if T=48 then 1 else if T=50 then 2 else if T=49 then 3 else-1
theorem Gh {k:Int}(h0:0<=k)(h4:k<4) :Gg (we k) =k:=by
 rcases(show k=0\/k=1\/k=2\/k=3 by omega)with rfl|rfl|rfl|rfl<;>decide
theorem zy {k:Int}(h0:0<=k)(h4:k<4) :we k=53\/we k=48\/we k=50\/we k=49:=by
 rcases(show k=0\/k=1\/k=2\/k=3 by omega)with rfl|rfl|rfl|rfl<;>decide
def oZ (k:Int)(t:ByteArray) :Int:=if k=2 then eo t else if k=3 then nV (ad t)else if t=emp then 0 else 2
def nH (k s:Int) :Int:=if k=1 then(if s<0\/1099511627776<s then 3 else 0)else if s=0 then 0 else 2
def dn (e:fM) :Int:=
 if e.k<0\/4<=e.k then 8 else if nV (ad e.p)≠0 then nV (ad e.p)else if e.m<0\/4095<e.m\/ (e.k=2/\e.m≠0)then 16 else
  if oZ e.k e.t≠0 then oZ e.k e.t else nH e.k e.s
structure Ok (e:fM) :Prop where
 k0:0<=e.k
 k4:e.k<4
 path:nV (ad e.p) =0
 m0:0<=e.m
 m1:e.m<=4095
 mS:e.k=2->e.m=0
 tg:oZ e.k e.t=0
 sz:nH e.k e.s=0
theorem fw {e:fM} :dn e=0↔Ok e:=by
 unfold dn;constructor
 ·intro h;by_cases h1:e.k<0\/4<=e.k
  ·rw[if_pos h1]at h;omega
  ·rw[if_neg h1]at h;by_cases h2:nV (ad e.p)≠0
   ·rw[if_pos h2]at h;exact absurd h h2
   ·rw[if_neg h2]at h;by_cases h3:e.m<0\/4095<e.m\/ (e.k=2/\e.m≠0)
    ·rw[if_pos h3]at h;omega
    ·rw[if_neg h3]at h;by_cases h4:oZ e.k e.t≠0
     ·rw[if_pos h4]at h;exact absurd h h4
     ·rw[if_neg h4]at h;exact⟨by omega,by omega,Decidable.byContradiction h2,by omega,by omega,by omega,Decidable.byContradiction h4,h⟩
 ·intro h;have:=h.k0;have:=h.k4;have:=h.m0;have:=h.m1;have:=h.mS;rw[if_neg (by omega),if_neg (by rw[h.path];simp),if_neg (by omega),if_neg (by rw[h.tg];simp)];exact h.sz
theorem gY {t:ByteArray} :t=emp↔t.size=0:=by
 constructor
 ·rintro rfl;rfl
 ·intro h;exact ByteArray.ext (Array.eq_empty_of_size_eq_zero h)
theorem nh {p:ByteArray}(h:nV (ad p) =0) :p≠emp/\p.size<=65536:=by
 obtain⟨h1,h2⟩:=jh.1 h;rw[ah]at h1;refine⟨?_,h1⟩;rintro rfl;have:= (h2 [] (by rw[show ad emp= []from rfl];exact List.mem_cons_self)).1;exact this rfl
theorem qN {x:Int} :∀{zs:List Int},x∈zs->∃a c,zs=a++x::c/\x∉a
 | [],h=>by cases h
 |y::r,h=>by
  by_cases hy:y=x
  ·exact⟨[],r,by rw[hy];rfl,by simp⟩
  ·rcases List.mem_cons.1 h with e|h'
   ·exact absurd e.symm hy
   ·obtain⟨a,c,e,ha⟩:=qN h';refine⟨y::a,c,by rw[e];rfl,?_⟩;rw[List.mem_cons];rintro(e'|e')
    ·exact hy e'.symm
    ·exact ha e'
theorem ik:∀{zs:List Int},cu zs-> (0:Int)∉zs:=by
 intro zs
 induction hn:zs.length using Nat.strongRecOn generalizing zs with
 |_ n ih=>
  intro h;by_cases h47: (47:Int)∈zs
  ·obtain⟨a,c,rfl,ha⟩:=qN h47;obtain⟨p1,p2⟩:= (ng a c).1 h;have i1:= ((gD ha).1 p1).2.2.2;have i2:=ih c.length (by rw[<- hn,List.length_append,List.length_cons];omega) rfl p2;rw[List.mem_append,List.mem_cons];rintro(h'|h'|h')
   ·exact i1 h'
   ·omega
   ·exact i2 h'
  ·exact((gD h47).1 h).2.2.2
theorem jT {k:Int}{t:ByteArray}(h:oZ k t=0) :t.size<=65536/\ ((k≠2/\k≠3/\t=emp)\/ ((k=2\/k=3)/\t≠emp))/\ (t=emp\/eo t=0) :=by
 unfold oZ at h;by_cases h2:k=2
 ·rw[if_pos h2]at h;have h':=h;unfold eo at h;by_cases hv:65536<t.size
  ·rw[if_pos hv]at h;omega
  ·rw[if_neg hv]at h;by_cases he:t.size=0\/ (0:Int)∈ad t
   ·rw[if_pos he]at h;omega
   ·exact⟨by omega,.inr ⟨.inl h2,fun e=>he (.inl (gY.1 e))⟩,.inr h'⟩
 ·rw[if_neg h2]at h;by_cases h3:k=3
  ·rw[if_pos h3]at h;obtain⟨a,b⟩:=nh h;refine⟨b,.inr ⟨.inr h3,a⟩,.inr ?_⟩;unfold eo;rw[if_neg (by omega),if_neg];rintro(e|e)
   ·exact a (gY.2 e)
   ·exact absurd e (ik (jh.1 h).2)
  ·rw[if_neg h3]at h;by_cases ht:t=emp
   ·subst ht;exact⟨by decide,.inl ⟨h2,h3,rfl⟩,.inl rfl⟩
   ·rw[if_neg ht]at h;omega
theorem gr {k s:Int}(h:nH k s=0) :0<=s/\s<=1099511627776/\ (k≠1->s=0) :=by
 unfold nH at h;by_cases h1:k=1
 ·rw[if_pos h1]at h;by_cases h2:s<0\/1099511627776<s
  ·rw[if_pos h2]at h;omega
  ·omega
 ·rw[if_neg h1]at h;by_cases h2:s=0
  ·omega
  ·rw[if_neg h2]at h;omega
def eZ (e:fM) :Hd:=⟨we e.k,strOfNums (dN (ad e.p)),strOfNums (dO (ad e.p)),if e.t.size<=100 then e.t else emp,e.m,if e.s<=8589934591 then e.s else 0⟩
def Ep (e:fM) :List Rec:=if e.t.size<=100 then []else [(aM,e.t)]
def En (e:fM) :List Rec:=if eV (ad e.p) =true then []else [(aG,e.p)]
def Eo (e:fM) :List Rec:=if e.s<=8589934591 then []else [(aL,strOfNums (cy e.s.toNat))]
def jK (e:fM) :List Rec:=Ep e++ (En e++Eo e)
theorem mU {s:ByteArray}{zs:List Int}(h:∀z∈zs,z∈ad s) :ad (strOfNums zs) =zs:=ak fun z hz=>cG s z (h z hz)
theorem kE (p:ByteArray) : (eV (ad p) =true/\dO (ad p) = []/\dN (ad p) =ad p/\p.size<=100)\/
 (eV (ad p) =true/\dO (ad p)≠ []/\dN (ad p)≠ []/\ad p=dO (ad p) ++47::dN (ad p)/\ (dO (ad p)).length<=155/\ (dN (ad p)).length<=100/\100<p.size)\/
 (eV (ad p) =false/\dO (ad p) = []/\dN (ad p) = []/\100<p.size) :=by
 by_cases h: (ad p).length<=100
 ·obtain⟨a,b,c⟩:=vV h;rw[ah]at h;exact .inl ⟨c,a,b,h⟩
 ·rcases yR h with⟨i,_,⟨h1,h2,h3,h4,_⟩,_,a,b,c,d⟩|⟨_,a,b,c⟩
  ·refine .inr (.inl ⟨c,?_,?_,?_,?_,?_,by rw[ah]at h;omega⟩)
   ·rw[a];intro e;have:=congrArg List.length e;rw[List.length_take,List.length_nil]at this;omega
   ·rw[b];intro e;have:=congrArg List.length e;rw[List.length_drop,List.length_nil]at this;omega
   ·rw[a,b];exact d
   ·rw[a,List.length_take];omega
   ·rw[b,List.length_drop];omega
  ·exact .inr (.inr ⟨c,a,b,by rw[ah]at h;omega⟩)
theorem yS (p:ByteArray) :ad (strOfNums (dO (ad p))) =dO (ad p)/\ad (strOfNums (dN (ad p))) =dN (ad p) :=by
 rcases kE p with⟨_,a,b,_⟩|⟨_,_,_,d,_⟩|⟨_,a,b,_⟩
 ·rw[a,b,aJ];exact⟨rfl,rfl⟩
 ·exact⟨mU (s:=p) fun z hz=>by rw[d];exact List.mem_append_left _ hz,mU (s:=p) fun z hz=>by rw[d];exact List.mem_append_right _ (List.mem_cons_of_mem _ hz)⟩
 ·rw[a,b];exact⟨rfl,rfl⟩
def GD (v:ByteArray) :Int:=match parseIntB 64 v.data.toList with
 | .ok n=>n
 | .range=>intSat 64 v.data.toList
 |_=>0
def Fy (e:fM)(r:Rec) :fM:=if r.1=aM then{e with t:=r.2}else if r.1=aG then{e with p:=r.2}else if r.1=aL then{e with s:=GD r.2}else e
def Fp (h:Hd) :fM:=⟨Gg h.T,strOfNums (DZ (ad h.pf) (ad h.nm)),h.md,h.lk,h.sz⟩
def zR (h:Hd)(l:List Rec) :fM:=l.foldl Fy (Fp h)
def Fu (h:Hd)(l:List Rec) :Prop:=dn (zR h l) =0/\eZ (zR h l) =h/\jK (zR h l) =l
theorem vm (n:Nat) :ad (strOfNums (cy n)) =cy n:=ak fun z hz=>by
 have:= (List.all_eq_true.1 (fZ n)) z hz;rw[dD]at this;omega
theorem mem_pl {e:fM}{r:Rec}(h:r∈jK e) : (r= (aM,e.t)/\100<e.t.size)\/ (r= (aG,e.p)/\eV (ad e.p) =false)\/ (r= (aL,strOfNums (cy e.s.toNat))/\8589934591<e.s) :=by
 unfold jK Ep En Eo at h;rw[List.mem_append,List.mem_append]at h;rcases h with h|h|h
 ·split at h
  ·cases h
  ·rename_i hc;exact .inl ⟨List.mem_singleton.1 h,by omega⟩
 ·split at h
  ·cases h
  ·rename_i hc;exact .inr (.inl ⟨List.mem_singleton.1 h,by simpa using hc⟩)
 ·split at h
  ·cases h
  ·rename_i hc;exact .inr (.inr ⟨List.mem_singleton.1 h,by omega⟩)
theorem yl {e:fM}(h:Ok e) :∀r∈jK e,cA r=0:=by
 intro r hr;rcases mem_pl hr with⟨rfl,ht⟩|⟨rfl,_⟩|⟨rfl,hs⟩
 ·unfold cA;rw[if_pos (.inl rfl)];rcases(jT h.tg).2.2 with e1|e1
  ·rw[e1]at ht;exact absurd ht (by decide)
  ·exact e1
 ·unfold cA;rw[if_pos (.inr rfl)];obtain⟨a,b⟩:=nh h.path;unfold eo;dsimp only;rw[if_neg (by omega),if_neg];rintro(e1|e1)
  ·exact a (gY.2 e1)
  ·exact ik (jh.1 h.path).2 e1
 ·unfold cA;rw[if_neg (show¬(aL=aM\/aL=aG) by decide),if_pos rfl];obtain⟨h0,h1,_⟩:=gr h.sz;unfold nW;dsimp only;rw[vm,zZ,vk,if_neg (by decide),if_neg (by omega)]
theorem pU {e:fM}(h:Ok e) :gP [] (jK e) =0:=by
 have hc:=yl h;have k1:jv aG aM=false:=by rw[jw (.inr (.inl rfl)) (.inl rfl)];decide
 have k2:jv aL aM=false:=by rw[jw (.inr (.inr rfl)) (.inl rfl)];decide
 have k3:jv aL aG=false:=by rw[jw (.inr (.inr rfl)) (.inr (.inl rfl))];decide
 revert hc;unfold jK Ep En Eo;intro hc
 have one:∀(b:List Rec) (r:Rec) (rs:List Rec),cA r=0->il b r.1=false->gP (b++ [r]) rs=0->gP b (r::rs) =0:=by
  intro b r rs h1 h2 h3;rw[gZ];unfold dV;rw[h1,h2,if_neg (by simp)];exact h3
 split at hc<;>rename_i c1<;>split at hc<;>rename_i c2<;>split at hc<;>rename_i c3<;>simp only[c1,c2,c3,if_true,if_false,List.nil_append,List.append_nil,List.cons_append]at hc⊢
 ·rfl
 ·exact one _ _ _ (hc _ (by simp)) rfl rfl
 ·exact one _ _ _ (hc _ (by simp)) rfl rfl
 ·exact one _ _ _ (hc _ (by simp)) rfl (one _ _ _ (hc _ (by simp)) k3 rfl)
 ·exact one _ _ _ (hc _ (by simp)) rfl rfl
 ·exact one _ _ _ (hc _ (by simp)) rfl (one _ _ _ (hc _ (by simp)) k2 rfl)
 ·exact one _ _ _ (hc _ (by simp)) rfl (one _ _ _ (hc _ (by simp)) k1 rfl)
 ·exact one _ _ _ (hc _ (by simp)) rfl (one _ _ _ (hc _ (by simp)) k1 (one _ _ _ (hc _ (by simp)) k3 rfl))
end Fit
namespace Oct
def mx (k:Nat) :Int:=8^k- 1
theorem jC (k:Nat) :mx (k+1) =mx k*8+7:=by unfold mx;rw[Int.pow_succ];omega
theorem ix (k:Nat) :0<=mx k:=by
 induction k with
 |zero=>exact Int.le_refl 0
 |succ k ih=>rw[jC];omega
theorem ur {j k:Nat}(h:j<=k) :mx j<=mx k:=by
 induction h with
 |refl=>exact Int.le_refl _
 |step _ ih=>rw[jC];have:=ix (by assumption);omega
theorem Eh:mx 20=1152921504606846975:=by decide
theorem Ej:mx 21=9223372036854775807:=by decide
theorem jB {k:Nat}(h:k<21) :mx k<=1152921504606846975:=by have:=ur (show k<=20 by omega);rw[Eh]at this;exact this
theorem Cl {k:Nat}(h:k<=21) :mx k<=9223372036854775807:=by have:=ur h;rw[Ej]at this;exact this
def sh (n:Int)(j:Nat) :Int:=n/8^j
theorem qe (n:Int) :sh n 0=n:=by simp[sh]
theorem qd (n:Int)(j:Nat) :sh n (j+1) =sh n j/8:=by
 unfold sh;rw[Int.pow_succ,Int.ediv_ediv_of_nonneg (Int.pow_nonneg (by decide))]
theorem oT {n:Int}(h:0<=n)(j:Nat) :0<=sh n j:=Int.ediv_nonneg h (Int.pow_nonneg (by decide))
theorem Cq {n:Int}(h:0<=n)(j:Nat) :sh n j<=n:=Int.ediv_le_self _ h
def nZ:Nat->Int->List Int
 |0,_=> []
 |j+1,n=> (48+sh n j % 8) ::nZ j n
theorem dL (j:Nat)(n:Int) : (nZ j n).length=j:=by induction j with
 |zero=>rfl
 |succ j ih=>simp[nZ,ih]
def cL (k:Nat)(n:Int) :List Int:=nZ k n++ [0]
theorem aU (k:Nat)(n:Int) : (cL k n).length=k+1:=by simp[cL,dL]
def part (k j:Nat)(n:Int) :List Int:=List.replicate (k- j) 0++ (nZ j n++ [0])
theorem vE (k:Nat)(n:Int) :part k 0 n=List.replicate (k+1) 0:=by
 simp[part,nZ,List.replicate_succ']
theorem vC (k:Nat)(n:Int) :part k k n=cL k n:=by simp[part,cL]
theorem vD {k j:Nat}(n:Int)(h:j<k) : (part k j n).set (k- 1- j) (48+sh n j % 8) =part k (j+1) n:=by
 unfold part;have e:k- j= (k- 1- j) +1:=by omega
 rw[e,List.replicate_succ',List.append_assoc,List.set_append_right _ _ (by simp)];simp[nZ,show k- (j+1) =k- 1- j by omega]
theorem Bc {k j:Nat}(n:Int)(h:j<k) : (part k j n)[k- 1- j]? =some 0:=by
 unfold part;rw[List.getElem?_append_left (by rw[List.length_replicate];omega),List.getElem?_replicate,if_pos (by omega)]
def val (ds:List Int) :Int:=ds.foldl (fun a c=>a*8+ (c- 48)) 0
theorem nJ (ds:List Int)(c:Int) :val (ds++ [c]) =val ds*8+ (c- 48) :=by simp[val,List.foldl_append]
def nQ (ds:List Int) :Prop:=∀d∈ds,48<=d/\d<=55
theorem eE {ds:List Int}{j:Nat}(h:j<ds.length) :ds.take (j+1) =ds.take j++ [ds.getD j 0] :=by
 rw[List.take_succ_eq_append_getElem h];simp[h]
theorem tt:∀(j:Nat) (ds:List Int),ds.length=j->nQ ds->0<=val ds/\val ds<=mx j
 |0,ds,h,_=>by
  obtain rfl:ds= [] :=List.length_eq_zero_iff.1 h;exact⟨Int.le_refl 0,Int.le_refl 0⟩
 |j+1,ds,h,hd=>by
  have hne:ds≠ [] :=by intro e;rw[e]at h;simp at h
  obtain⟨xs,c,rfl⟩:∃xs c,ds=xs++ [c] :=⟨ds.dropLast,ds.getLast hne,(List.dropLast_concat_getLast hne).symm⟩;have ih:=tt j xs (by simpa using h) (fun d m=>hd d (by simp[m]));have:=hd c (by simp);rw[nJ,jC];omega
theorem xU (j:Nat)(n:Int) :nQ (nZ j n) :=by
 induction j with
 |zero=>intro d h;simp[nZ]at h
 |succ j ih=>
  intro d h;rcases List.mem_cons.1 h with rfl|h
  ·omega
  ·exact ih d h
theorem mj (k:Nat)(n:Int) :∀z∈cL k n,0<=z/\z<=255:=by
 intro z h;rcases List.mem_append.1 h with h|h
 ·have:=xU k n z h;omega
 ·obtain rfl:z=0:=by simpa using h
  omega
instance (ds:List Int) :Decidable (nQ ds) :=by unfold nQ;infer_instance
def sV (zs:List Int) :Prop:=zs.getD (zs.length- 1) 0=0/\nQ (zs.take (zs.length- 1))
instance (zs:List Int) :Decidable (sV zs) :=by unfold sV;infer_instance
def Bj (zs:List Int) :Int:=if zs.length<2\/22<zs.length then 2 else if sV zs then 0 else 6
def Bk (zs:List Int) :Int:=if zs.length<2\/22<zs.length then 0 else if sV zs then val (zs.take (zs.length- 1))else 0
theorem sI (ds:List Int) :∀a:Int,ds.foldl (fun a c=>a*8+ (c- 48)) a=a*8^ds.length+ds.foldl (fun a c=>a*8+ (c- 48)) 0:=by
 induction ds with
 |nil=>intro a;simp
 |cons d ds ih=>
  intro a;simp only[List.foldl_cons,List.length_cons];rw[ih (a*8+ (d- 48)),ih (0*8+ (d- 48)),Int.pow_succ]
  grind
theorem zA (c:Int)(ds:List Int) :val (c::ds) = (c- 48) *8^ds.length+val ds:=by
 unfold val;rw[List.foldl_cons,sI];simp
theorem uv (n:Int) :∀k:Nat,n=sh n k*8^k+val (nZ k n)
 |0=>by rw[qe];simp[nZ,val]
 |k+1=>by
  have ih:=uv n k;have e:sh n k=8*sh n (k+1) +sh n k % 8:=by rw[qd];omega
  rw[nZ,zA,dL,Int.pow_succ];generalize val (nZ k n) =v at*;generalize sh n (k+1) =s at*;generalize sh n k % 8=r at*;generalize (8:Int) ^k=p at*;rw[e]at ih
  grind
theorem BT (k:Nat)(n:Int)(h0:0<=n)(hm:n<=mx k) :val (nZ k n) =n:=by
 have h:=uv n k;have hz:sh n k=0:=by unfold sh;exact Int.ediv_eq_zero_of_lt h0 (by unfold mx at hm;omega)
 rw[hz]at h;omega
end Oct
namespace gR
open Oct
theorem tj {zs:List Int}(h:Bytes zs) :0<=zs.sum/\zs.sum<=255*zs.length:=by
 induction zs with
 |nil=>simp
 |cons z zs ih=>
  have h1:=h z (by simp);have h2:=ih (fun x hx=>h x (List.mem_cons_of_mem _ hx));simp only[List.sum_cons,List.length_cons];omega
theorem eN {zs:List Int}{j:Nat}(h:j<zs.length) : (zs.take (j+1)).sum= (zs.take j).sum+zs.getD j 0:=by
 rw[eE h];simp
theorem lj {zs:List Int}(h:Bytes zs)(j:Nat) :0<= (zs.take j).sum/\ (zs.take j).sum<=255*j:=by
 have:=tj (h.take j);have:=List.length_take_le j zs;omega
def Cr:List Int:=List.replicate 8 32
theorem fD:Cr.length=8:=rfl
def cr (zs:List Int) :List Int:=lay zs 148 Cr
def iY (zs:List Int) :Int:= (cr zs).sum
def ko (n:Int) :List Int:=cL 6 n++ [32]
theorem dE (n:Int) : (ko n).length=8:=by simp[ko,aU]
def bJ (zs:List Int) :List Int:=lay zs 148 (ko (iY zs))
theorem fc {zs:List Int}(h:zs.length=512) : (cr zs).length=512:=by rw[cr,iQ _ _ _ (by rw[fD];omega),h]
theorem dQ {zs:List Int}(h:zs.length=512) : (bJ zs).length=512:=by rw[bJ,iQ _ _ _ (by rw[dE];omega),h]
theorem oU:Bytes Cr:= .replicate 8 (by decide)
theorem kQ {zs:List Int}(h:Bytes zs) :Bytes (cr zs) :=kr _ h oU
theorem qM (n:Int) :Bytes (ko n) :=Bytes.append (mj 6 n) (.replicate 1 (by decide))
theorem fC {zs:List Int}(h:Bytes zs) :Bytes (bJ zs) :=kr _ h (qM _)
theorem qj (zs:List Int) :iY zs= (zs.take 148).sum+256+ (zs.drop 156).sum:=by
 simp[iY,cr,lay,Cr];omega
theorem BF {zs:List Int}(h:Bytes zs)(hl:zs.length=512) :256<=iY zs/\iY zs<=128776:=by
 have h1:=tj (h.take 148);have h2:=tj (h.drop 156);rw[List.length_take]at h1;rw[List.length_drop]at h2;rw[qj];omega
theorem Fv:mx 6=262143:=by decide
theorem oW {zs:List Int}(h:Bytes zs)(hl:zs.length=512) :0<=iY zs/\iY zs<=mx 6:=by
 have:=BF h hl;rw[Fv];omega
theorem nI (zs:List Int)(ys:List Int)(h:148<=zs.length) : (lay zs 148 ys).take 148=zs.take 148:=by
 unfold lay;rw[List.take_append_of_le_length (by rw[List.length_take];omega),List.take_take,Nat.min_self]
theorem qG (zs:List Int)(ys:List Int)(h:148<=zs.length)(hy:ys.length=8) : (lay zs 148 ys).drop 156=zs.drop 156:=by
 unfold lay;rw[List.drop_append,List.drop_eq_nil_of_le (by rw[List.length_take];omega),List.length_take,Nat.min_eq_left h,List.nil_append,List.drop_append,List.drop_eq_nil_of_le (by omega),hy];simp
theorem Az (zs xs ys:List Int)(h:148<=zs.length)(hx:xs.length=8)(hy:ys.length=8) :lay (lay zs 148 xs) 148 ys=lay zs 148 ys:=by
 rw[lay,nI zs xs h,hy,show 148+8=156 from rfl,qG zs xs h hx];simp[lay,hy]
theorem yZ (zs ys:List Int)(h:zs.length=512)(hy:ys.length=8) :iY (lay zs 148 ys) =iY zs:=by
 rw[qj,qj,nI zs ys (by omega),qG zs ys (by omega) hy]
theorem oR (zs ys:List Int)(h:zs.length=512)(hy:ys.length=8) :bJ (lay zs 148 ys) =bJ zs:=by
 unfold bJ;rw[yZ zs ys h hy,Az zs ys _ (by omega) hy (dE _)]
theorem rS (zs:List Int)(h:zs.length=512) :bJ (bJ zs) =bJ zs:=oR zs _ h (dE _)
theorem yN (zs:List Int)(h:zs.length=512) :lay (cr zs) 148 (cL 6 (iY zs)) =bJ zs:=by
 unfold bJ ko;rw[lay,cr,nI zs _ (by omega),aU]
 have: (lay zs 148 Cr).drop (148+ (6+1)) =32::zs.drop 156:=by
  unfold lay;rw[List.drop_append,List.drop_eq_nil_of_le (by rw[List.length_take];omega),List.length_take,Nat.min_eq_left (by omega),List.nil_append,show 148+ (6+1) - 148=7 from rfl];rfl
 rw[this];simp[lay,aU]
def dn (zs:List Int) :Int:=if zs.length=512 then 0 else 2
theorem DC (zs:List Int) :∃v:Int,(zs=bJ zs/\v=0)\/ (¬zs=bJ zs/\v=9) :=by
 by_cases h:zs=bJ zs
 ·exact⟨0,.inl ⟨h,rfl⟩⟩
 ·exact⟨9,.inr ⟨h,rfl⟩⟩
end gR
namespace Cst
def eT (zs:List Int)(wd:Int) :Int:=if wd<1\/256<wd then 2 else if(0:Int)∈zs then 6 else if wd<zs.length then 7 else 0
def bF (zs:List Int)(k:Nat) :List Int:=zs++List.replicate (k- zs.length) 0
theorem fv {zs:List Int}{wd:Int} :eT zs wd=0↔1<=wd/\wd<=256/\ (0:Int)∉zs/\ (zs.length:Int)<=wd:=by
 unfold eT
 split
 ·omega
 ·split
  ·simp_all
  ·split
   ·omega
   ·simp_all;try omega
theorem bg (zs:List Int)(k:Nat)(h:zs.length<=k) : (bF zs k).length=k:=by simp[bF];omega
theorem tY (zs:List Int)(k:Nat)(h:∀z∈zs,0<=z/\z<=255) :∀z∈bF zs k,0<=z/\z<=255:=by
 intro z hz;rcases List.mem_append.1 hz with hz|hz
 ·exact h z hz
 ·have:=List.eq_of_mem_replicate hz;omega
def bW (zs:List Int) :List Int:= (zs.reverse.dropWhile (·==0)).reverse
theorem eW (zs:List Int) :bW (zs++ [0]) =bW zs:=by simp[bW]
theorem iI (zs:List Int){x:Int}(h:x≠0) :bW (zs++ [x]) =zs++ [x] :=by
 have: (x==0) =false:=by simpa using h
 simp[bW,this]
theorem ll (zs:List Int) :∀m,bW (zs++List.replicate m 0) =bW zs
 |0=>by simp
 |m+1=>by rw[List.replicate_succ',<- List.append_assoc,eW,ll zs m]
theorem gL (zs:List Int) :∃m,zs=bW zs++List.replicate m 0:=by
 have key:∀l:List Int,∃m,l.reverse=bW l.reverse++List.replicate m 0:=by
  intro l
  induction l with
  |nil=>exact⟨0,rfl⟩
  |cons x l ih=>
   rw[List.reverse_cons];by_cases hx:x=0
   ·subst hx;obtain⟨m,hm⟩:=ih;exact⟨m+1,by rw[eW,List.replicate_succ',<- List.append_assoc,<- hm]⟩
   ·exact⟨0,by rw[iI _ hx];simp⟩
 simpa using key zs.reverse
theorem tq {zs:List Int}(h: (0:Int)∉zs) :bW zs=zs:=by
 obtain⟨m,hm⟩:=gL zs;rcases m with _|m
 ·simpa using hm.symm
 ·exfalso;apply h;rw[hm];simp
theorem qo (zs:List Int) : (bW zs).length<=zs.length:=by
 obtain⟨m,hm⟩:=gL zs;have:=congrArg List.length hm;simp at this;omega
theorem zu (zs:List Int)(h:∀z∈zs,0<=z/\z<=255) :∀z∈bW zs,0<=z/\z<=255:=by
 intro z hz;obtain⟨m,hm⟩:=gL zs;exact h z (by rw[hm];exact List.mem_append_left _ hz)
def nO (zs:List Int) :List Int:=if zs.length<1\/256<zs.length then []else if(0:Int)∈bW zs then []else bW zs
def pt (zs:List Int) :Int:=if zs.length<1\/256<zs.length then 2 else if(0:Int)∈bW zs then 6 else 0
theorem qE {zs:List Int} :pt zs=0↔1<=zs.length/\zs.length<=256/\ (0:Int)∉bW zs:=by
 unfold pt
 split
 ·omega
 ·split
  ·simp_all
  ·rename_i h1 h2;exact⟨fun _=>⟨by omega,by omega,h2⟩,fun _=>rfl⟩
theorem CB {zs:List Int}(h:pt zs=0) :nO zs=bW zs:=by
 have:=qE.1 h;unfold nO;rw[if_neg (by omega),if_neg this.2.2]
theorem CA (zs:List Int)(h:∀z∈zs,0<=z/\z<=255) :∀z∈nO zs,0<=z/\z<=255:=by
 unfold nO
 split
 ·simp
 ·split
  ·simp
  ·exact zu zs h
theorem vY {zs:List Int}(k:Nat)(h: (0:Int)∉zs) :bW (bF zs k) =zs:=by
 unfold bF;rw[ll,tq h]
theorem gK {zs:List Int}{j:Nat}(h:j<zs.length) :zs.take (j+1) =zs.take j++ [zs.getD j 0] :=by
 rw[List.take_add_one,List.getD_eq_getElem?_getD,List.getElem?_eq_getElem h];rfl
end Cst
end Go.Proofs.YtcjagakckffkiaaGreatDoor
