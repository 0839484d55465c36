import Derived.Test.YtcjagakckffkiaaGreatDoorQ2
import Derived.Test.YtcjagakckffkiaaGreatDoorQ3
import Derived.Lib.ParseIntBTie
import Derived.Lib.AtoiTie
import Derived.Test.YtcjagakckffkiaaGreatDoorQ1
import Derived.Test.YtcjagakckffkiaaGreatDoorQ0
set_option maxHeartbeats 16000000
namespace Go.Proofs.YtcjagakckffkiaaGreatDoor.Fit
open Go.Lib Go.RowKit bL Pnm
structure dY where
 k:Int
 p:ByteArray
 m:Int
 t:ByteArray
 s:Int
structure Hd where
 T:Int
 nm:ByteArray
 pf:ByteArray
 lk:ByteArray
 md:Int
 sz:Int
abbrev emp:ByteArray:= {data:= #[]}
def yf (k:Int) :Int:=if k=0 then 53 else if k=1 then 48 else if k=2 then 50 else 49
def Ln (T:Int) :Int:=if T=53 then 0 else if T=48 then 1 else if T=50 then 2 else if T=49 then 3 else-1
theorem LU {k:Int}(h0:0<=k)(h4:k<4) :Ln (yf k) =k:=by
 rcases(show k=0\/k=1\/k=2\/k=3 by omega)with rfl|rfl|rfl|rfl<;>decide
theorem wY {k:Int}(h0:0<=k)(h4:k<4) :yf k=53\/yf k=48\/yf k=50\/yf k=49:=by
 rcases(show k=0\/k=1\/k=2\/k=3 by omega)with rfl|rfl|rfl|rfl<;>decide
def vO (k:Int)(t:ByteArray) :Int:=if k=2 then iC t else if k=3 then zj (af t)else if t=emp then 0 else 2
def pX (k s:Int) :Int:=if k=1 then(if s<0\/1099511627776<s then 3 else 0)else if s=0 then 0 else 2
def dn (e:dY) :Int:=
 if e.k<0\/4<=e.k then 8 else if zj (af e.p)≠0 then zj (af e.p)else if e.m<0\/4095<e.m\/ (e.k=2/\e.m≠0)then 16 else
  if vO e.k e.t≠0 then vO e.k e.t else pX e.k e.s
structure Ok (e:dY) :Prop where
 k0:0<=e.k
 k4:e.k<4
 path:zj (af e.p) =0
 m0:0<=e.m
 m1:e.m<=4095
 mS:e.k=2->e.m=0
 tg:vO e.k e.t=0
 sz:pX e.k e.s=0
theorem dB {e:dY} :dn e=0↔Ok e:=by
 unfold dn;constructor
 ·intro h;by_cases h1:e.k<0\/4<=e.k
  ·rw[if_pos h1]at h;omega
  ·rw[if_neg h1]at h;by_cases h2:zj (af e.p)≠0
   ·rw[if_pos h2]at h;exact absurd h h2
   ·rw[if_neg h2]at h;by_cases h3:e.m<0\/4095<e.m\/ (e.k=2/\e.m≠0)
    ·rw[if_pos h3]at h;omega
    ·rw[if_neg h3]at h;by_cases h4:vO e.k e.t≠0
     ·rw[if_pos h4]at h;exact absurd h h4
     ·rw[if_neg h4]at h;exact⟨by omega,by omega,Decidable.byContradiction h2,by omega,by omega,by omega,Decidable.byContradiction h4,h⟩
 ·intro h;have:=h.k0;have:=h.k4;have:=h.m0;have:=h.m1;have:=h.mS;rw[if_neg (by omega),if_neg (by rw[h.path];simp),if_neg (by omega),if_neg (by rw[h.tg];simp)];exact h.sz
theorem rA {t:ByteArray} :t=emp↔t.size=0:=by
 constructor
 ·rintro rfl;rfl
 ·intro h;exact ByteArray.ext (Array.eq_empty_of_size_eq_zero h)
theorem ru {p:ByteArray}(h:zj (af p) =0) :p≠emp/\p.size<=65536:=by
 obtain⟨h1,h2⟩:=iM.1 h;rw[an]at h1;refine⟨?_,h1⟩;rintro rfl;have:= (h2 [] (by rw[show af emp= []from rfl];exact List.mem_cons_self)).1;exact this rfl
theorem wM {x:Int} :∀{zs:List Int},x∈zs->∃a c,zs=a++x::c/\x∉a
 | [],h=>by cases h
 |y::r,h=>by
  by_cases hy:y=x
  ·exact⟨[],r,by rw[hy];rfl,by simp⟩
  ·rcases List.mem_cons.1 h with e|h'
   ·exact absurd e.symm hy
   ·obtain⟨a,c,e,ha⟩:=wM h';refine⟨y::a,c,by rw[e];rfl,?_⟩;rw[List.mem_cons];rintro(e'|e')
    ·exact hy e'.symm
    ·exact ha e'
theorem kx:∀{zs:List Int},fL zs-> (0:Int)∉zs:=by
 intro zs
 induction hn:zs.length using Nat.strongRecOn generalizing zs with
 |_ n ih=>
  intro h;by_cases h47: (47:Int)∈zs
  ·obtain⟨a,c,rfl,ha⟩:=wM h47;obtain⟨p1,p2⟩:= (yw a c).1 h;have i1:= ((rS ha).1 p1).2.2.2;have i2:=ih c.length (by rw[<- hn,List.length_append,List.length_cons];omega) rfl p2;rw[List.mem_append,List.mem_cons];rintro(h'|h'|h')
   ·exact i1 h'
   ·omega
   ·exact i2 h'
  ·exact((rS h47).1 h).2.2.2
theorem kJ {k:Int}{t:ByteArray}(h:vO k t=0) :t.size<=65536/\ ((k≠2/\k≠3/\t=emp)\/ ((k=2\/k=3)/\t≠emp))/\ (t=emp\/iC t=0) :=by
 unfold vO at h;by_cases h2:k=2
 ·rw[if_pos h2]at h;have h':=h;unfold iC at h;by_cases hv:65536<t.size
  ·rw[if_pos hv]at h;omega
  ·rw[if_neg hv]at h;by_cases he:t.size=0\/ (0:Int)∈af t
   ·rw[if_pos he]at h;omega
   ·exact⟨by omega,.inr ⟨.inl h2,fun e=>he (.inl (rA.1 e))⟩,.inr h'⟩
 ·rw[if_neg h2]at h;by_cases h3:k=3
  ·rw[if_pos h3]at h;obtain⟨a,b⟩:=ru h;refine⟨b,.inr ⟨.inr h3,a⟩,.inr ?_⟩;unfold iC;rw[if_neg (by omega),if_neg];rintro(e|e)
   ·exact a (rA.2 e)
   ·exact absurd e (kx (iM.1 h).2)
  ·rw[if_neg h3]at h;by_cases ht:t=emp
   ·subst ht;exact⟨by decide,.inl ⟨h2,h3,rfl⟩,.inl rfl⟩
   ·rw[if_neg ht]at h;omega
theorem gV {k s:Int}(h:pX k s=0) :0<=s/\s<=1099511627776/\ (k≠1->s=0) :=by
 unfold pX at h;by_cases h1:k=1
 ·rw[if_pos h1]at h;by_cases h2:s<0\/1099511627776<s
  ·rw[if_pos h2]at h;omega
  ·omega
 ·rw[if_neg h1]at h;by_cases h2:s=0
  ·omega
  ·rw[if_neg h2]at h;omega
def gr (e:dY) :Hd:=⟨yf e.k,strOfNums (fJ (af e.p)),strOfNums (fI (af e.p)),if e.t.size<=100 then e.t else emp,e.m,if e.s<=8589934591 then e.s else 0⟩
def Np (e:dY) :List Rec:=if e.t.size<=100 then []else [(aQ,e.t)]
def Oc (e:dY) :List Rec:=if fX (af e.p) =true then []else [(aM,e.p)]
def Pg (e:dY) :List Rec:=if e.s<=8589934591 then []else [(aS,strOfNums (dq e.s.toNat))]
def gI (e:dY) :List Rec:=Np e++ (Oc e++Pg e)
theorem rM {s:ByteArray}{zs:List Int}(h:∀z∈zs,z∈af s) :af (strOfNums zs) =zs:=av fun z hz=>dw s z (h z hz)
theorem iH (p:ByteArray) : (fX (af p) =true/\fI (af p) = []/\fJ (af p) =af p/\p.size<=100)\/
 (fX (af p) =true/\fI (af p)≠ []/\fJ (af p)≠ []/\af p=fI (af p) ++47::fJ (af p)/\ (fI (af p)).length<=155/\ (fJ (af p)).length<=100/\100<p.size)\/
 (fX (af p) =false/\fI (af p) = []/\fJ (af p) = []/\100<p.size) :=by
 by_cases h: (af p).length<=100
 ·obtain⟨a,b,c⟩:=CX h;rw[an]at h;exact .inl ⟨c,a,b,h⟩
 ·rcases EV h with⟨i,_,⟨h1,h2,h3,h4,_⟩,_,a,b,c,d⟩|⟨_,a,b,c⟩
  ·refine .inr (.inl ⟨c,?_,?_,?_,?_,?_,by rw[an]at h;omega⟩)
   ·rw[a];intro e;have:=congrArg List.length e;rw[List.length_take,List.length_nil]at this;omega
   ·rw[b];intro e;have:=congrArg List.length e;rw[List.length_drop,List.length_nil]at this;omega
   ·rw[a,b];exact d
   ·rw[a,List.length_take];omega
   ·rw[b,List.length_drop];omega
  ·exact .inr (.inr ⟨c,a,b,by rw[an]at h;omega⟩)
theorem ra (p:ByteArray) :af (strOfNums (fI (af p))) =fI (af p)/\af (strOfNums (fJ (af p))) =fJ (af p) :=by
 rcases iH p with⟨_,a,b,_⟩|⟨_,_,_,d,_⟩|⟨_,a,b,_⟩
 ·rw[a,b,az];exact⟨rfl,rfl⟩
 ·exact⟨rM (s:=p) fun z hz=>by rw[d];exact List.mem_append_left _ hz,rM (s:=p) fun z hz=>by rw[d];exact List.mem_append_right _ (List.mem_cons_of_mem _ hz)⟩
 ·rw[a,b];exact⟨rfl,rfl⟩
theorem Hh {p:ByteArray}(h:fX (af p) =true) :strOfNums (jO (af (strOfNums (fI (af p)))) (af (strOfNums (fJ (af p))))) =p:=by
 rw[(ra p).1,(ra p).2];unfold jO;rcases iH p with⟨_,a,b,_⟩|⟨_,a,_,d,_⟩|⟨a,_⟩
 ·rw[if_pos a,b,az]
 ·rw[if_neg a,<- d,az]
 ·rw[h]at a;cases a
def yH (v:ByteArray) :Int:=match parseIntB 64 v.data.toList with
 | .ok n=>n
 | .range=>intSat 64 v.data.toList
 |_=>0
def jx (e:dY)(r:Rec) :dY:=if r.1=aQ then{e with t:=r.2}else if r.1=aM then{e with p:=r.2}else if r.1=aS then{e with s:=yH r.2}else e
def Cp (h:Hd) :dY:=⟨Ln h.T,strOfNums (jO (af h.pf) (af h.nm)),h.md,h.lk,h.sz⟩
def lr (h:Hd)(l:List Rec) :dY:=l.foldl jx (Cp h)
def oR (h:Hd)(l:List Rec) :Prop:=dn (lr h l) =0/\gr (lr h l) =h/\gI (lr h l) =l
theorem ya (e:dY)(v:ByteArray) :jx e (aQ,v) = {e with t:=v} :=by unfold jx;rw[if_pos rfl]
theorem wi (e:dY)(v:ByteArray) :jx e (aM,v) = {e with p:=v} :=by unfold jx;rw[if_neg (show¬aM=aQ by decide),if_pos rfl]
theorem vT (e:dY)(v:ByteArray) :jx e (aS,v) = {e with s:=yH v} :=by unfold jx;rw[if_neg (show¬aS=aQ by decide),if_neg (show¬aS=aM by decide),if_pos rfl]
theorem mP:∀(l:List UInt8) (acc:Nat),(∀b∈l,48<=b.toNat/\b.toNat<=57)->decFrom acc l=some ((l.map fun b=> (b.toNat:Int)).foldl (fun n z=>10*n+ (z- 48).toNat) acc)
 | [],_,_=>rfl
 |b::r,acc,h=>by
  have hb:=h b List.mem_cons_self;unfold decFrom digitVal;rw[if_pos hb];dsimp only;rw[mP r _ fun c hc=>h c (List.mem_cons_of_mem _ hc),List.map_cons,List.foldl_cons]
  congr 2
  omega
theorem Nv {v:ByteArray}(h:cU (af v) =true)(hv:gi (af v)<=1099511627776) :yH v=gi (af v) :=by
 have hl:=td h hv;have hd:= (kW _).1 h;have hlen:v.data.toList.length<=18:=by rw[show af v=v.data.toList.map fun b=> (b.toNat:Int)from rfl,List.length_map]at hl;omega
 have hg:∀b∈v.data.toList,48<=b.toNat/\b.toNat<=57:=by
  intro b hb
  have:= (List.all_eq_true.1 (by
   have h':=h;unfold cU at h';rw[Bool.and_eq_true,Bool.and_eq_true]at h';exact h'.1.2)) (b.toNat:Int) (List.mem_map.2 ⟨b,hb,rfl⟩)
  rw[eM]at this;omega
 have hne:v.data.toList≠ [] :=by
  intro e;exact hd.1 (by unfold af;rw[e];rfl)
 have key:parseIntB 64 v.data.toList= .ok (gi (af v) :Int) :=by
  rw[parseIntB_64,atoiAll_short _ hlen]
  have e1:decNat v.data.toList=some (gi (af v)) :=by
   unfold decNat;rw[if_neg (by simpa using hne),mP _ _ hg];rfl
  obtain⟨b,r,hbr⟩:∃b r,v.data.toList=b::r:=List.exists_cons_of_ne_nil hne;have hb:=hg b (by rw[hbr];exact List.mem_cons_self);rw[hbr]at e1⊢;unfold atoi;dsimp only;rw[if_neg (by simp;intro e;rw[e]at hb;exact absurd hb (by decide)),if_neg (by simp;intro e;rw[e]at hb;exact absurd hb (by decide)),e1];rfl
 unfold yH;rw[key]
theorem ln (n:Nat) :af (strOfNums (dq n)) =dq n:=av fun z hz=>by
 have:= (List.all_eq_true.1 (iI n)) z hz;rw[eM]at this;omega
theorem Ox {n:Nat}(h:n<=1099511627776) :yH (strOfNums (dq n)) =n:=by
 have e:=Nv (v:=strOfNums (dq n)) (by rw[ln];exact vI n) (by rw[ln,kY];exact h);rw[e,ln,kY]
end Go.Proofs.YtcjagakckffkiaaGreatDoor.Fit
namespace Go.Proofs.YtcjagakckffkiaaGreatDoor.Fit
open Go.Lib Go.RowKit bL Pnm
theorem back {e:dY}(h:Ok e) :lr (gr e) (gI e) =e:=by
 obtain⟨k,p,m,t,s⟩:=e;have hk:Ln (yf k) =k:=LU h.k0 h.k4;obtain⟨hs0,hs1,_⟩:=gV h.sz;dsimp only at hs0 hs1
 have hP: (if fX (af p) =true then p else emp) =strOfNums (jO (af (strOfNums (fI (af p)))) (af (strOfNums (fJ (af p))))) :=by
  by_cases hb:fX (af p) =true
  ·rw[if_pos hb,Hh hb]
  ·rw[if_neg hb];rcases iH p with⟨a,_⟩|⟨a,_⟩|⟨_,a,b,_⟩
   ·exact absurd a hb
   ·exact absurd a hb
   ·rw[a,b];rfl
 unfold lr gI;rw[List.foldl_append,List.foldl_append]
 have e0:Cp (gr ⟨k,p,m,t,s⟩) =⟨k,if fX (af p) =true then p else emp,m,if t.size<=100 then t else emp,if s<=8589934591 then s else 0⟩:=by
  unfold Cp gr;dsimp only;rw[hk,hP]
 rw[e0]
 have e1:List.foldl jx ⟨k,if fX (af p) =true then p else emp,m,if t.size<=100 then t else emp,if s<=8589934591 then s else 0⟩ (Np ⟨k,p,m,t,s⟩) =⟨k,if fX (af p) =true then p else emp,m,t,if s<=8589934591 then s else 0⟩:=by
  unfold Np;dsimp only;by_cases ht:t.size<=100
  ·rw[if_pos ht,if_pos ht];rfl
  ·rw[if_neg ht,if_neg ht,List.foldl_cons,ya];rfl
 rw[e1]
 have e2:List.foldl jx ⟨k,if fX (af p) =true then p else emp,m,t,if s<=8589934591 then s else 0⟩ (Oc ⟨k,p,m,t,s⟩) =⟨k,p,m,t,if s<=8589934591 then s else 0⟩:=by
  unfold Oc;dsimp only;by_cases hb:fX (af p) =true
  ·rw[if_pos hb,if_pos hb];rfl
  ·rw[if_neg hb,if_neg hb,List.foldl_cons,wi];rfl
 rw[e2];unfold Pg;dsimp only;by_cases hs:s<=8589934591
 ·rw[if_pos hs,if_pos hs];rfl
 ·rw[if_neg hs,if_neg hs,List.foldl_cons,vT,Ox (by omega),List.foldl_nil];have: ((s.toNat:Nat) :Int) =s:=by omega
  rw[this]
theorem zS {e:dY}(h:Ok e) :oR (gr e) (gI e) :=by
 unfold oR;rw[back h];exact⟨dB.2 h,rfl,rfl⟩
theorem mem_pl {e:dY}{r:Rec}(h:r∈gI e) : (r= (aQ,e.t)/\100<e.t.size)\/ (r= (aM,e.p)/\fX (af e.p) =false)\/ (r= (aS,strOfNums (dq e.s.toNat))/\8589934591<e.s) :=by
 unfold gI Np Oc Pg at h;rw[List.mem_append,List.mem_append]at h;rcases h with h|h|h
 ·split at h
  ·cases h
  ·rename_i hc;exact .inl ⟨List.mem_singleton.1 h,by omega⟩
 ·split at h
  ·cases h
  ·rename_i hc;exact .inr (.inl ⟨List.mem_singleton.1 h,by simpa using hc⟩)
 ·split at h
  ·cases h
  ·rename_i hc;exact .inr (.inr ⟨List.mem_singleton.1 h,by omega⟩)
theorem OV (e:dY) : (gI e).length<=3:=by
 unfold gI Np Oc Pg;rw[List.length_append,List.length_append]
 split<;>split<;>split<;>simp only[List.length_nil,List.length_singleton] <;>omega
theorem Es {e:dY}(h:Ok e) :∀r∈gI e,dA r=0:=by
 intro r hr;rcases mem_pl hr with⟨rfl,ht⟩|⟨rfl,_⟩|⟨rfl,hs⟩
 ·unfold dA;rw[if_pos (.inl rfl)];rcases(kJ h.tg).2.2 with e1|e1
  ·rw[e1]at ht;exact absurd ht (by decide)
  ·exact e1
 ·unfold dA;rw[if_pos (.inr rfl)];obtain⟨a,b⟩:=ru h.path;unfold iC;dsimp only;rw[if_neg (by omega),if_neg];rintro(e1|e1)
  ·exact a (rA.2 e1)
  ·exact kx (iM.1 h.path).2 e1
 ·unfold dA;rw[if_neg (show¬(aS=aQ\/aS=aM) by decide),if_pos rfl];obtain⟨h0,h1,_⟩:=gV h.sz;unfold sD;dsimp only;rw[ln,vI,kY,if_neg (by decide),if_neg (by omega)]
theorem qh {e:dY}(h:Ok e) :kK [] (gI e) =0:=by
 have hc:=Es h;have k1:pw aM aQ=false:=by rw[nA (.inr (.inl rfl)) (.inl rfl)];decide
 have k2:pw aS aQ=false:=by rw[nA (.inr (.inr rfl)) (.inl rfl)];decide
 have k3:pw aS aM=false:=by rw[nA (.inr (.inr rfl)) (.inr (.inl rfl))];decide
 revert hc;unfold gI Np Oc Pg;intro hc
 have one:∀(b:List Rec) (r:Rec) (rs:List Rec),dA r=0->ki b r.1=false->kK (b++ [r]) rs=0->kK b (r::rs) =0:=by
  intro b r rs h1 h2 h3;rw[gU];unfold eI;rw[h1,h2,if_neg (by simp)];exact h3
 split at hc<;>rename_i c1<;>split at hc<;>rename_i c2<;>split at hc<;>rename_i c3<;>simp only[c1,c2,c3,if_true,if_false,List.nil_append,List.append_nil,List.cons_append]at hc⊢
 ·rfl
 ·exact one _ _ _ (hc _ (by simp)) rfl rfl
 ·exact one _ _ _ (hc _ (by simp)) rfl rfl
 ·exact one _ _ _ (hc _ (by simp)) rfl (one _ _ _ (hc _ (by simp)) k3 rfl)
 ·exact one _ _ _ (hc _ (by simp)) rfl rfl
 ·exact one _ _ _ (hc _ (by simp)) rfl (one _ _ _ (hc _ (by simp)) k2 rfl)
 ·exact one _ _ _ (hc _ (by simp)) rfl (one _ _ _ (hc _ (by simp)) k1 rfl)
 ·exact one _ _ _ (hc _ (by simp)) rfl (one _ _ _ (hc _ (by simp)) k1 (one _ _ _ (hc _ (by simp)) k3 rfl))
end Go.Proofs.YtcjagakckffkiaaGreatDoor.Fit
namespace Go.Proofs.YtcjagakckffkiaaGreatDoor.Oct
def mx (k:Nat) :Int:=8^k- 1
theorem qn (k:Nat) :mx (k+1) =mx k*8+7:=by unfold mx;rw[Int.pow_succ];omega
theorem oX (k:Nat) :0<=mx k:=by
 induction k with
 |zero=>exact Int.le_refl 0
 |succ k ih=>rw[qn];omega
theorem Af {j k:Nat}(h:j<=k) :mx j<=mx k:=by
 induction h with
 |refl=>exact Int.le_refl _
 |step _ ih=>rw[qn];have:=oX (by assumption);omega
theorem Qb:mx 20=1152921504606846975:=by decide
theorem Pp:mx 21=9223372036854775807:=by decide
theorem qO {k:Nat}(h:k<21) :mx k<=1152921504606846975:=by have:=Af (show k<=20 by omega);rw[Qb]at this;exact this
theorem Py {k:Nat}(h:k<=21) :mx k<=9223372036854775807:=by have:=Af h;rw[Pp]at this;exact this
def sh (n:Int)(j:Nat) :Int:=n/8^j
theorem Au (n:Int) :sh n 0=n:=by simp[sh]
theorem AP (n:Int)(j:Nat) :sh n (j+1) =sh n j/8:=by
 unfold sh;rw[Int.pow_succ,Int.ediv_ediv_of_nonneg (Int.pow_nonneg (by decide))]
theorem Cg {n:Int}(h:0<=n)(j:Nat) :0<=sh n j:=Int.ediv_nonneg h (Int.pow_nonneg (by decide))
theorem Pm {n:Int}(h:0<=n)(j:Nat) :sh n j<=n:=Int.ediv_le_self _ h
def zv:Nat->Int->List Int
 |0,_=> []
 |j+1,n=> (48+sh n j % 8) ::zv j n
theorem gS (j:Nat)(n:Int) : (zv j n).length=j:=by induction j with
 |zero=>rfl
 |succ j ih=>simp[zv,ih]
def eK (k:Nat)(n:Int) :List Int:=zv k n++ [0]
theorem bW (k:Nat)(n:Int) : (eK k n).length=k+1:=by simp[eK,gS]
def part (k j:Nat)(n:Int) :List Int:=List.replicate (k- j) 0++ (zv j n++ [0])
theorem BE (k:Nat)(n:Int) :part k 0 n=List.replicate (k+1) 0:=by
 simp[part,zv,List.replicate_succ']
theorem Ci (k:Nat)(n:Int) :part k k n=eK k n:=by simp[part,eK]
theorem Da {k j:Nat}(n:Int)(h:j<k) : (part k j n).set (k- 1- j) (48+sh n j % 8) =part k (j+1) n:=by
 unfold part;have e:k- j= (k- 1- j) +1:=by omega
 rw[e,List.replicate_succ',List.append_assoc,List.set_append_right _ _ (by simp)];simp[zv,show k- (j+1) =k- 1- j by omega]
theorem Kv {k j:Nat}(n:Int)(h:j<k) : (part k j n)[k- 1- j]? =some 0:=by
 unfold part;rw[List.getElem?_append_left (by rw[List.length_replicate];omega),List.getElem?_replicate,if_pos (by omega)]
def val (ds:List Int) :Int:=ds.foldl (fun a c=>a*8+ (c- 48)) 0
theorem rY (ds:List Int)(c:Int) :val (ds++ [c]) =val ds*8+ (c- 48) :=by simp[val,List.foldl_append]
def sK (ds:List Int) :Prop:=∀d∈ds,48<=d/\d<=55
theorem fa {ds:List Int}{j:Nat}(h:j<ds.length) :ds.take (j+1) =ds.take j++ [ds.getD j 0] :=by
 rw[List.take_succ_eq_append_getElem h];simp[h]
theorem zo:∀(j:Nat) (ds:List Int),ds.length=j->sK ds->0<=val ds/\val ds<=mx j
 |0,ds,h,_=>by
  obtain rfl:ds= [] :=List.length_eq_zero_iff.1 h;exact⟨Int.le_refl 0,Int.le_refl 0⟩
 |j+1,ds,h,hd=>by
  have hne:ds≠ [] :=by intro e;rw[e]at h;simp at h
  obtain⟨xs,c,rfl⟩:∃xs c,ds=xs++ [c] :=⟨ds.dropLast,ds.getLast hne,(List.dropLast_concat_getLast hne).symm⟩;have ih:=zo j xs (by simpa using h) (fun d m=>hd d (by simp[m]));have:=hd c (by simp);rw[rY,qn];omega
theorem FH (j:Nat)(n:Int) :sK (zv j n) :=by
 induction j with
 |zero=>intro d h;simp[zv]at h
 |succ j ih=>
  intro d h;rcases List.mem_cons.1 h with rfl|h
  ·omega
  ·exact ih d h
theorem vH (k:Nat)(n:Int) :∀z∈eK k n,0<=z/\z<=255:=by
 intro z h;rcases List.mem_append.1 h with h|h
 ·have:=FH k n z h;omega
 ·obtain rfl:z=0:=by simpa using h
  omega
instance (ds:List Int) :Decidable (sK ds) :=by unfold sK;infer_instance
def yZ (zs:List Int) :Prop:=zs.getD (zs.length- 1) 0=0/\sK (zs.take (zs.length- 1))
instance (zs:List Int) :Decidable (yZ zs) :=by unfold yZ;infer_instance
def Lo (zs:List Int) :Int:=if zs.length<2\/22<zs.length then 2 else if yZ zs then 0 else 6
def DW (zs:List Int) :Int:=if zs.length<2\/22<zs.length then 0 else if yZ zs then val (zs.take (zs.length- 1))else 0
theorem yg (ds:List Int) :∀a:Int,ds.foldl (fun a c=>a*8+ (c- 48)) a=a*8^ds.length+ds.foldl (fun a c=>a*8+ (c- 48)) 0:=by
 induction ds with
 |nil=>intro a;simp
 |cons d ds ih=>
  intro a;simp only[List.foldl_cons,List.length_cons];rw[ih (a*8+ (d- 48)),ih (0*8+ (d- 48)),Int.pow_succ]
  grind
theorem Di (c:Int)(ds:List Int) :val (c::ds) = (c- 48) *8^ds.length+val ds:=by
 unfold val;rw[List.foldl_cons,yg];simp
theorem AA (n:Int) :∀k:Nat,n=sh n k*8^k+val (zv k n)
 |0=>by rw[Au];simp[zv,val]
 |k+1=>by
  have ih:=AA n k;have e:sh n k=8*sh n (k+1) +sh n k % 8:=by rw[AP];omega
  rw[zv,Di,gS,Int.pow_succ];generalize val (zv k n) =v at*;generalize sh n (k+1) =s at*;generalize sh n k % 8=r at*;generalize (8:Int) ^k=p at*;rw[e]at ih
  grind
theorem IE (k:Nat)(n:Int)(h0:0<=n)(hm:n<=mx k) :val (zv k n) =n:=by
 have h:=AA n k;have hz:sh n k=0:=by unfold sh;exact Int.ediv_eq_zero_of_lt h0 (by unfold mx at hm;omega)
 rw[hz]at h;omega
end Go.Proofs.YtcjagakckffkiaaGreatDoor.Oct
namespace Go.Proofs.YtcjagakckffkiaaGreatDoor.jC
open Oct
theorem zt {zs:List Int}(h:Bytes zs) :0<=zs.sum/\zs.sum<=255*zs.length:=by
 induction zs with
 |nil=>simp
 |cons z zs ih=>
  have h1:=h z (by simp);have h2:=ih (fun x hx=>h x (List.mem_cons_of_mem _ hx));simp only[List.sum_cons,List.length_cons];omega
theorem sB {zs:List Int}{j:Nat}(h:j<zs.length) : (zs.take (j+1)).sum= (zs.take j).sum+zs.getD j 0:=by
 rw[fa h];simp
theorem wO {zs:List Int}(h:Bytes zs)(j:Nat) :0<= (zs.take j).sum/\ (zs.take j).sum<=255*j:=by
 have:=zt (h.take j);have:=List.length_take_le j zs;omega
def Ph:List Int:=List.replicate 8 32
theorem jg:Ph.length=8:=rfl
def fj (zs:List Int) :List Int:=lay zs 148 Ph
def oo (zs:List Int) :Int:= (fj zs).sum
def rO (n:Int) :List Int:=eK 6 n++ [32]
theorem eQ (n:Int) : (rO n).length=8:=by simp[rO,bW]
def cu (zs:List Int) :List Int:=lay zs 148 (rO (oo zs))
theorem jv {zs:List Int}(h:zs.length=512) : (fj zs).length=512:=by rw[fj,lG _ _ _ (by rw[jg];omega),h]
theorem ee {zs:List Int}(h:zs.length=512) : (cu zs).length=512:=by rw[cu,lG _ _ _ (by rw[eQ];omega),h]
theorem tu:Bytes Ph:= .replicate 8 (by decide)
theorem vW {zs:List Int}(h:Bytes zs) :Bytes (fj zs) :=ot _ h tu
theorem xF (n:Int) :Bytes (rO n) :=Bytes.append (vH 6 n) (.replicate 1 (by decide))
theorem lS {zs:List Int}(h:Bytes zs) :Bytes (cu zs) :=ot _ h (xF _)
theorem uH (zs:List Int) :oo zs= (zs.take 148).sum+256+ (zs.drop 156).sum:=by
 simp[oo,fj,lay,Ph];omega
theorem Jr {zs:List Int}(h:Bytes zs)(hl:zs.length=512) :256<=oo zs/\oo zs<=128776:=by
 have h1:=zt (h.take 148);have h2:=zt (h.drop 156);rw[List.length_take]at h1;rw[List.length_drop]at h2;rw[uH];omega
theorem Qw:mx 6=262143:=by decide
theorem BP {zs:List Int}(h:Bytes zs)(hl:zs.length=512) :0<=oo zs/\oo zs<=mx 6:=by
 have:=Jr h hl;rw[Qw];omega
theorem rD (zs:List Int)(ys:List Int)(h:148<=zs.length) : (lay zs 148 ys).take 148=zs.take 148:=by
 unfold lay;rw[List.take_append_of_le_length (by rw[List.length_take];omega),List.take_take,Nat.min_self]
theorem wV (zs:List Int)(ys:List Int)(h:148<=zs.length)(hy:ys.length=8) : (lay zs 148 ys).drop 156=zs.drop 156:=by
 unfold lay;rw[List.drop_append,List.drop_eq_nil_of_le (by rw[List.length_take];omega),List.length_take,Nat.min_eq_left h,List.nil_append,List.drop_append,List.drop_eq_nil_of_le (by omega),hy];simp
theorem Jq (zs xs ys:List Int)(h:148<=zs.length)(hx:xs.length=8)(hy:ys.length=8) :lay (lay zs 148 xs) 148 ys=lay zs 148 ys:=by
 rw[lay,rD zs xs h,hy,show 148+8=156 from rfl,wV zs xs h hx];simp[lay,hy]
theorem GV (zs ys:List Int)(h:zs.length=512)(hy:ys.length=8) :oo (lay zs 148 ys) =oo zs:=by
 rw[uH,uH,rD zs ys (by omega),wV zs ys (by omega) hy]
theorem tP (zs ys:List Int)(h:zs.length=512)(hy:ys.length=8) :cu (lay zs 148 ys) =cu zs:=by
 unfold cu;rw[GV zs ys h hy,Jq zs ys _ (by omega) hy (eQ _)]
theorem xD (zs:List Int)(h:zs.length=512) :cu (cu zs) =cu zs:=tP zs _ h (eQ _)
theorem Hm (zs:List Int)(h:zs.length=512) :lay (fj zs) 148 (eK 6 (oo zs)) =cu zs:=by
 unfold cu rO;rw[lay,fj,rD zs _ (by omega),bW]
 have: (lay zs 148 Ph).drop (148+ (6+1)) =32::zs.drop 156:=by
  unfold lay;rw[List.drop_append,List.drop_eq_nil_of_le (by rw[List.length_take];omega),List.length_take,Nat.min_eq_left (by omega),List.nil_append,show 148+ (6+1) - 148=7 from rfl];rfl
 rw[this];simp[lay,bW]
def dn (zs:List Int) :Int:=if zs.length=512 then 0 else 2
end Go.Proofs.YtcjagakckffkiaaGreatDoor.jC
namespace Go.Proofs.YtcjagakckffkiaaGreatDoor.Cst
def jd (zs:List Int)(wd:Int) :Int:=if wd<1\/256<wd then 2 else if(0:Int)∈zs then 6 else if wd<zs.length then 7 else 0
def dr (zs:List Int)(k:Nat) :List Int:=zs++List.replicate (k- zs.length) 0
theorem iY {zs:List Int}{wd:Int} :jd zs wd=0↔1<=wd/\wd<=256/\ (0:Int)∉zs/\ (zs.length:Int)<=wd:=by
 unfold jd
 split
 ·omega
 ·split
  ·simp_all
  ·split
   ·omega
   ·simp_all;try omega
theorem bV (zs:List Int)(k:Nat)(h:zs.length<=k) : (dr zs k).length=k:=by simp[dr];omega
theorem Az (zs:List Int)(k:Nat)(h:∀z∈zs,0<=z/\z<=255) :∀z∈dr zs k,0<=z/\z<=255:=by
 intro z hz;rcases List.mem_append.1 hz with hz|hz
 ·exact h z hz
 ·have:=List.eq_of_mem_replicate hz;omega
def cF (zs:List Int) :List Int:= (zs.reverse.dropWhile (·==0)).reverse
theorem fY (zs:List Int) :cF (zs++ [0]) =cF zs:=by simp[cF]
theorem lF (zs:List Int){x:Int}(h:x≠0) :cF (zs++ [x]) =zs++ [x] :=by
 have: (x==0) =false:=by simpa using h
 simp[cF,this]
theorem pd (zs:List Int) :∀m,cF (zs++List.replicate m 0) =cF zs
 |0=>by simp
 |m+1=>by rw[List.replicate_succ',<- List.append_assoc,fY,pd zs m]
theorem jD (zs:List Int) :∃m,zs=cF zs++List.replicate m 0:=by
 have key:∀l:List Int,∃m,l.reverse=cF l.reverse++List.replicate m 0:=by
  intro l
  induction l with
  |nil=>exact⟨0,rfl⟩
  |cons x l ih=>
   rw[List.reverse_cons];by_cases hx:x=0
   ·subst hx;obtain⟨m,hm⟩:=ih;exact⟨m+1,by rw[fY,List.replicate_succ',<- List.append_assoc,<- hm]⟩
   ·exact⟨0,by rw[lF _ hx];simp⟩
 simpa using key zs.reverse
theorem yY {zs:List Int}(h: (0:Int)∉zs) :cF zs=zs:=by
 obtain⟨m,hm⟩:=jD zs;rcases m with _|m
 ·simpa using hm.symm
 ·exfalso;apply h;rw[hm];simp
theorem mV (zs:List Int) : (cF zs).length<=zs.length:=by
 obtain⟨m,hm⟩:=jD zs;have:=congrArg List.length hm;simp at this;omega
theorem xM (zs:List Int)(h:∀z∈zs,0<=z/\z<=255) :∀z∈cF zs,0<=z/\z<=255:=by
 intro z hz;obtain⟨m,hm⟩:=jD zs;exact h z (by rw[hm];exact List.mem_append_left _ hz)
def nL (zs:List Int) :List Int:=if zs.length<1\/256<zs.length then []else if(0:Int)∈cF zs then []else cF zs
def uO (zs:List Int) :Int:=if zs.length<1\/256<zs.length then 2 else if(0:Int)∈cF zs then 6 else 0
theorem xX {zs:List Int} :uO zs=0↔1<=zs.length/\zs.length<=256/\ (0:Int)∉cF zs:=by
 unfold uO
 split
 ·omega
 ·split
  ·simp_all
  ·rename_i h1 h2;exact⟨fun _=>⟨by omega,by omega,h2⟩,fun _=>rfl⟩
theorem OY {zs:List Int}(h:uO zs=0) :nL zs=cF zs:=by
 have:=xX.1 h;unfold nL;rw[if_neg (by omega),if_neg this.2.2]
theorem Hu (zs:List Int)(h:∀z∈zs,0<=z/\z<=255) :∀z∈nL zs,0<=z/\z<=255:=by
 unfold nL
 split
 ·simp
 ·split
  ·simp
  ·exact xM zs h
theorem CS {zs:List Int}(k:Nat)(h: (0:Int)∉zs) :cF (dr zs k) =zs:=by
 unfold dr;rw[pd,yY h]
theorem qv {zs:List Int}{j:Nat}(h:j<zs.length) :zs.take (j+1) =zs.take j++ [zs.getD j 0] :=by
 rw[List.take_add_one,List.getD_eq_getElem?_getD,List.getElem?_eq_getElem h];rfl
end Go.Proofs.YtcjagakckffkiaaGreatDoor.Cst
namespace Go.Proofs.YtcjagakckffkiaaGreatDoor.Ust
open Oct Cst jC
abbrev bA (T:Int)(nm pf lk:ByteArray)(md sz:Int) :List Go.Value:= [.int .u8 T,.string nm,.string pf,.string lk,.int .i64 md,.int .i64 sz]
def known (T:Int) :Prop:=T=48\/T=49\/T=50\/T=53\/T=120
instance (T:Int) :Decidable (known T) :=by unfold known;infer_instance
def mA (T:Int)(nm pf lk:ByteArray)(md sz:Int) :Int:=
 if¬known T then 8 else if jd (af nm) 100≠0 then jd (af nm) 100 else if jd (af lk) 100≠0 then jd (af lk) 100 else if jd (af pf) 155≠0 then jd (af pf) 155 else
  if md<0\/4095<md then 16 else if sz<0\/8589934591<sz then 3 else 0
theorem dx {T:Int}{nm pf lk:ByteArray}{md sz:Int} :mA T nm pf lk md sz=0↔known T/\jd (af nm) 100=0/\jd (af lk) 100=0/\jd (af pf) 155=0/\ (0<=md/\md<=4095)/\ (0<=sz/\sz<=8589934591) :=by
 unfold mA;constructor
 ·intro h
  split at h
  ·cases h
  ·split at h
   ·contradiction
   ·split at h
    ·contradiction
    ·split at h
     ·contradiction
     ·split at h
      ·cases h
      ·split at h
       ·cases h
       ·refine⟨?_,?_,?_,?_,?_,?_⟩<;>first|omega| (apply Decidable.byContradiction;assumption)
 ·rintro⟨h1,h2,h3,h4,h5,h6⟩;rw[if_neg (by simpa using h1),if_neg (by simpa using h2),if_neg (by simpa using h3),if_neg (by simpa using h4),if_neg (by omega),if_neg (by omega)]
def kf (nm:List Int)(md sz:Int) :List Int:=dr nm 100++ (eK 7 md++ (eK 7 0++ (eK 7 0++ (eK 11 sz++eK 11 0))))
def xG:List Int:= [117,115,116,97,114,0,48,48]
def lx (T:Int)(pf lk:List Int) :List Int:= [T] ++ (dr lk 100++ (xG++ (ao 32++ (ao 32++ (eK 7 0++ (eK 7 0++ (dr pf 155++ao 12)))))))
def pU (T:Int)(nm pf lk:ByteArray)(md sz:Int) :List Int:=kf (af nm) md sz++ (Ph++lx T (af pf) (af lk))
def dL (T:Int)(nm pf lk:ByteArray)(md sz:Int) :List Int:=cu (pU T nm pf lk md sz)
theorem gB {nm:List Int}{md sz:Int}(h:nm.length<=100) : (kf nm md sz).length=148:=by
 unfold kf;simp[bV _ _ h,bW]
theorem vr {T:Int}{pf lk:List Int}(h1:pf.length<=155)(h2:lk.length<=100) : (lx T pf lk).length=356:=by
 unfold lx;simp[bV _ _ h1,bV _ _ h2,bW,al,xG]
theorem eU {s:ByteArray}{k:Nat}(h:jd (af s) k=0) : (af s).length<=k:=by have:= (iY.1 h).2.2.2;omega
theorem jk (s:ByteArray) :Bytes (af s) :=dw s
theorem lZ {zs:List Int}(h:Bytes zs)(k:Nat) :Bytes (dr zs k) :=Az zs k h
theorem fE (k:Nat)(n:Int) :Bytes (eK k n) :=vH k n
theorem jr {T:Int}(h:known T) :0<=T/\T<=255:=by unfold known at h;omega
theorem Hc {T:Int}(h:0<=T/\T<=255) :Bytes [T] :=fun z hz=>by rw[List.mem_singleton.1 hz];exact h
theorem wE {nm:List Int}(h:Bytes nm)(md sz:Int) :Bytes (kf nm md sz) :=
 (lZ h 100).append ((fE 7 md).append ((fE 7 0).append ((fE 7 0).append ((fE 11 sz).append (fE 11 0)))))
theorem xK {T:Int}{pf lk:List Int}(hT:0<=T/\T<=255)(h1:Bytes pf)(h2:Bytes lk) :Bytes (lx T pf lk) :=
 (Hc hT).append ((lZ h2 100).append (Bytes.append (by unfold xG Bytes;decide) ((cZ 32).append ((cZ 32).append ((fE 7 0).append ((fE 7 0).append ((lZ h1 155).append (cZ 12))))))))
theorem Cf {T:Int}(hT:0<=T/\T<=255)(nm pf lk:ByteArray)(md sz:Int) :Bytes (pU T nm pf lk md sz) :=
 (wE (jk nm) md sz).append (tu.append (xK hT (jk pf) (jk lk)))
theorem CB {T:Int}(hT:0<=T/\T<=255)(nm pf lk:ByteArray)(md sz:Int) :Bytes (dL T nm pf lk md sz) :=lS (Cf hT nm pf lk md sz)
section
variable {T:Int} {nm pf lk:ByteArray} {md sz:Int}
theorem mj (h:mA T nm pf lk md sz=0) : (pU T nm pf lk md sz).length=512:=by
 obtain⟨_,h2,h3,h4,_⟩:=dx.1 h;unfold pU;simp[gB (eU (k:=100) h2),vr (eU (k:=155) h4) (eU (k:=100) h3),jg]
theorem lT (h:mA T nm pf lk md sz=0) : (dL T nm pf lk md sz).length=512:=ee (mj h)
theorem yr (h:mA T nm pf lk md sz=0) :cu (dL T nm pf lk md sz) =dL T nm pf lk md sz:=xD _ (mj h)
theorem bO {a b:List Int}{m:Nat}(n k:Nat)(ha:a.length=n)(hm:m=n+k) : (a++b).drop m=b.drop k:=by
 subst hm;subst ha;rw[List.drop_append];simp
theorem gL {a b:List Int}{n:Nat}(ha:a.length=n) : (a++b).take n=a:=by subst ha;simp
theorem Og (h:mA T nm pf lk md sz=0) :∃F:List Int,F.length=8/\dL T nm pf lk md sz=kf (af nm) md sz++ (F++lx T (af pf) (af lk)) :=by
 obtain⟨_,h2,h3,h4,_⟩:=dx.1 h;have la:=gB (md:=md) (sz:=sz) (eU (k:=100) h2);refine⟨_,eQ (oo (pU T nm pf lk md sz)),?_⟩;unfold dL cu lay;rw[eQ];have e1: (pU T nm pf lk md sz).take 148=kf (af nm) md sz:=gL la
 have e2: (pU T nm pf lk md sz).drop (148+8) =lx T (af pf) (af lk) :=by
  unfold pU;rw[bO 148 8 la rfl,bO 8 0 jg rfl,List.drop_zero]
 rw[e1,e2]
theorem yK (h:mA T nm pf lk md sz=0) : (dL T nm pf lk md sz).take 100=dr (af nm) 100/\ ((dL T nm pf lk md sz).drop 100).take 8=eK 7 md/\ ((dL T nm pf lk md sz).drop 124).take 12=eK 11 sz/\
 (dL T nm pf lk md sz).getD 156 0=T/\ ((dL T nm pf lk md sz).drop 157).take 100=dr (af lk) 100/\ ((dL T nm pf lk md sz).drop 345).take 155=dr (af pf) 155:=by
 obtain⟨F,hF,he⟩:=Og h;obtain⟨_,h2,h3,h4,_⟩:=dx.1 h;have l1:=bV _ _ (eU (k:=100) h2);have l2:=bV _ _ (eU (k:=100) h3);have l3:=bV _ _ (eU (k:=155) h4);have la:=gB (md:=md) (sz:=sz) (eU (k:=100) h2);have f7:=bW 7;have f11:=bW 11;have e1:∀X:List Int,kf (af nm) md sz++X=dr (af nm) 100++ (eK 7 md++ (eK 7 0++ (eK 7 0++ (eK 11 sz++ (eK 11 0++X))))) :=fun X=>by simp only[kf,List.append_assoc]
 have e2:lx T (af pf) (af lk) = [T] ++ (dr (af lk) 100++ (xG++ (ao 32++ (ao 32++ (eK 7 0++ (eK 7 0++ (dr (af pf) 155++ao 12))))))) :=rfl;rw[he];refine⟨?_,?_,?_,?_,?_,?_⟩
 ·rw[e1];exact gL l1
 ·rw[e1,bO 100 0 l1 rfl,List.drop_zero];exact gL (f7 md)
 ·rw[e1,bO 100 24 l1 rfl,bO 8 16 (f7 md) rfl,bO 8 8 (f7 0) rfl,bO 8 0 (f7 0) rfl,List.drop_zero];exact gL (f11 sz)
 ·rw[List.getD_eq_getElem?_getD,List.getElem?_append_right (by omega),List.getElem?_append_right (by omega),la,hF,e2];rfl
 ·rw[bO 148 9 la rfl,bO 8 1 hF rfl,e2,bO 1 0 rfl rfl,List.drop_zero];exact gL l2
 ·rw[bO 148 197 la rfl,bO 8 189 hF rfl,e2,bO 1 188 rfl rfl,bO 100 88 l2 rfl,bO 8 80 rfl rfl,bO 32 48 (al 32) rfl,bO 32 16 (al 32) rfl,bO 8 8 (f7 0) rfl,bO 8 0 (f7 0) rfl,List.drop_zero];exact gL l3
end
def dT (zs:List Int) :Int:=zs.getD 156 0
def oN (zs:List Int) :ByteArray:=strOfNums (nL (zs.take 100))
def oP (zs:List Int) :ByteArray:=strOfNums (nL ((zs.drop 157).take 100))
def og (zs:List Int) :ByteArray:=strOfNums (nL ((zs.drop 345).take 155))
def pT (zs:List Int) :Int:=DW ((zs.drop 100).take 8)
def pS (zs:List Int) :Int:=DW ((zs.drop 124).take 12)
def Gq (zs:List Int) :Prop:=uO (zs.take 100) =0/\uO ((zs.drop 157).take 100) =0/\uO ((zs.drop 345).take 155) =0/\Lo ((zs.drop 100).take 8) =0/\Lo ((zs.drop 124).take 12) =0
instance (zs:List Int) :Decidable (Gq zs) :=by unfold Gq;infer_instance
def Fo (zs:List Int) :Prop:=Gq zs/\mA (dT zs) (oN zs) (og zs) (oP zs) (pT zs) (pS zs) =0/\dL (dT zs) (oN zs) (og zs) (oP zs) (pT zs) (pS zs) =zs
instance (zs:List Int) :Decidable (Fo zs) :=by unfold Fo;infer_instance
def fB (zs:List Int) :Int:=if zs.length≠512 then 2 else if zs≠cu zs then 9 else if¬known (dT zs)then 8 else if Fo zs then 0 else 6
theorem oT {s:ByteArray}{k:Nat}(hk:k<=256)(h:jd (af s) k=0) :uO (dr (af s) k) =0/\strOfNums (nL (dr (af s) k)) =s:=by
 obtain⟨h1,_,h3,h4⟩:=iY.1 h;have hl:=bV (af s) k (by omega);have ht:=CS k h3;have e:uO (dr (af s) k) =0:=xX.2 ⟨by omega,by omega,by rw[ht];exact h3⟩;exact⟨e,by rw[OY e,ht,az]⟩
theorem Gm {k:Nat}{n:Int}(h1:1<=k)(h2:k<=21)(h0:0<=n)(hm:n<=mx k) :Lo (eK k n) =0/\DW (eK k n) =n:=by
 have hl:=bW k n;have ht: (eK k n).take ((eK k n).length- 1) =zv k n:=by rw[hl,Nat.add_sub_cancel];unfold eK;rw[List.take_left' (gS k n)]
 have ok:yZ (eK k n) :=by
  refine⟨?_,by rw[ht];exact FH k n⟩;rw[hl,Nat.add_sub_cancel,List.getD_eq_getElem?_getD];unfold eK;rw[List.getElem?_append_right (by rw[gS];exact ah),gS,Nat.sub_self];rfl
 have hb:¬((eK k n).length<2\/22< (eK k n).length) :=by omega
 exact⟨by unfold Lo;rw[if_neg hb,if_pos ok],by unfold DW;rw[if_neg hb,if_pos ok,ht];exact IE k n h0 hm⟩
theorem Pq:mx 7=2097151:=by decide
theorem He:mx 11=8589934591:=by decide
section
variable {T:Int} {nm pf lk:ByteArray} {md sz:Int}
theorem AO (h:mA T nm pf lk md sz=0) :fB (dL T nm pf lk md sz) =0/\dT (dL T nm pf lk md sz) =T/\oN (dL T nm pf lk md sz) =nm/\og (dL T nm pf lk md sz) =pf/\oP (dL T nm pf lk md sz) =lk/\
 pT (dL T nm pf lk md sz) =md/\pS (dL T nm pf lk md sz) =sz:=by
 obtain⟨f1,f2,f3,f4,f5,f6⟩:=yK h;obtain⟨k1,k2,k3,k4,k5,k6⟩:=dx.1 h;have e1:dT (dL T nm pf lk md sz) =T:=f4;have e2:oN (dL T nm pf lk md sz) =nm:=by unfold oN;rw[f1];exact(oT (k:=100) (by decide) k2).2
 have e3:og (dL T nm pf lk md sz) =pf:=by unfold og;rw[f6];exact(oT (k:=155) (by decide) k4).2
 have e4:oP (dL T nm pf lk md sz) =lk:=by unfold oP;rw[f5];exact(oT (k:=100) (by decide) k3).2
 have hm:=Pq;have hs:=He;have p1:=Gm (k:=7) (n:=md) (by decide) (by decide) k5.1 (by omega);have p2:=Gm (k:=11) (n:=sz) (by decide) (by decide) k6.1 (by omega);have e5:pT (dL T nm pf lk md sz) =md:=by unfold pT;rw[f2];exact p1.2
 have e6:pS (dL T nm pf lk md sz) =sz:=by unfold pS;rw[f3];exact p2.2
 have hf:Gq (dL T nm pf lk md sz) :=by
  unfold Gq;rw[f1,f2,f3,f5,f6];exact⟨(oT (k:=100) (by decide) k2).1,(oT (k:=100) (by decide) k3).1,(oT (k:=155) (by decide) k4).1,p1.1,p2.1⟩
 refine⟨?_,e1,e2,e3,e4,e5,e6⟩;unfold fB;rw[if_neg (by rw[lT h];simp),if_neg (by rw[yr h];simp),if_neg (by rw[e1];simpa using k1),if_pos ⟨hf,by rw[e1,e2,e3,e4,e5,e6];exact⟨h,rfl⟩⟩]
end
theorem yS {zs:List Int}(h:fB zs=0) :zs.length=512/\zs=cu zs/\known (dT zs)/\Fo zs:=by
 unfold fB at h
 split at h
 ·cases h
 ·split at h
  ·cases h
  ·split at h
   ·cases h
   ·split at h
    ·rename_i h1 h2 h3 h4;exact⟨by omega,Decidable.byContradiction h2,Decidable.byContradiction h3,h4⟩
    ·cases h
end Go.Proofs.YtcjagakckffkiaaGreatDoor.Ust
