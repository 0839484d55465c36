import Derived.Test.YtcjagakckffkiaaGreatDoorS1
import Derived.Deep.RegionHeld
import Derived.Lib.ItoaNum
import GoSem.Op.String
set_option maxHeartbeats 16000000
set_option maxRecDepth 100000
namespace Go.Proofs.YtcjagakckffkiaaGreatDoor
section
open Go.RowKit
section
variable {P:Program} {md:Region.Mode} {ops:Array Oper} {Q:Exit->Act->World->Prop} {S:World->Prop} {fuel:Nat} {listed:Array Bool} {a:Act} {w:World}
theorem tk (i:Nat){oi:Oper}{v:Value}(h:wpAnyH P md ops Q S fuel (listed.setIfInBounds i true) (a.put oi.dst v) w)
 (hi:ops[i]? =some oi:=by(simp only[List.getElem?_toArray,List.getElem?_cons_succ,List.getElem?_cons_zero]) <;>rfl)(hs:Region.noSelect ops=true:=by kernel_rfl)(hf:Region.free md ops listed i=true:=by kernel_rfl)(hr: (Region.ready md ops listed).contains i=true:=by kernel_rfl)
 (hw:Region.wanted oi (yielded ops a.tmps) =true:=by rfl)(hy:∀w,S w-> (execOp a.eval oi).run P w= .ok (.value v) w:=by(intro wS hSw;(try dsimp only at hSw);go_simp) <;> (try with_reducible rfl))
 (hQ:∀c a w,Q (.panic c) (a.put oi.dst v) w->Q (.panic c) a w:=by exact fun _ _ _ h=>h)(hS:S w:=by assumption) :wpAnyH P md ops Q S (fuel+1) listed a w:=
 wpAnyH_take hi hs hf hr hQ (Or.inl ⟨hw,hy⟩) hS h
theorem aY (i:Nat){oi:Oper}{v:Value}
 (hi:ops[i]? =some oi:=by(simp only[List.getElem?_toArray,List.getElem?_cons_succ,List.getElem?_cons_zero]) <;>rfl)(hs:Region.noSelect ops=true:=by kernel_rfl)(hf:Region.free md ops listed i=true:=by kernel_rfl)(hr: (Region.ready md ops listed).contains i=true:=by kernel_rfl)
 (hw:Region.wanted oi (yielded ops a.tmps) =true:=by rfl)(hy:∀w,S w-> (execOp a.eval oi).run P w= .ok (.value v) w:=by(intro wS hSw;(try dsimp only at hSw);(try simp only[Act.put,List.setIfInBounds_toArray,List.set_cons_zero,List.set_cons_succ]);go_simp) <;> (try with_reducible rfl))
 (hQ:∀c a w,Q (.panic c) (a.put oi.dst v) w->Q (.panic c) a w:=by exact fun _ _ _ h=>h)(hS:S w:=by assumption)(h:wpAnyH P md ops Q S fuel (listed.setIfInBounds i true) (a.put oi.dst v) w) :wpAnyH P md ops Q S (fuel+1) listed a w:=
 wpAnyH_take hi hs hf hr hQ (Or.inl ⟨hw,hy⟩) hS h
theorem rc (i:Nat){o:Oper}{rs:List Nat}(h:∀K':Act->World->Prop,Shut (∀a w,S w-> (S w->wpAnyH P md ops Q S fuel (listed.setIfInBounds i true) a w)->K' a w)->if Region.wanted o (yielded ops a.tmps) =true then Oper.wp P o a w K' Q else K' (a.put o.dst undef) w)
 (hs:AllReadyH P md ops Q S fuel listed a w rs)(ho:ops[i]? =some o:=by(simp only[List.getElem?_toArray,List.getElem?_cons_succ,List.getElem?_cons_zero]) <;>rfl) :AllReadyH P md ops Q S fuel listed a w (i::rs) := .cons ho h hs
theorem sX {rs:List Nat}(h:AllReadyH P md ops Q S fuel listed a w rs)(hr:Region.ready md ops listed=rs:=by kernel_rfl)(hne:rs≠ [] :=by simp) :wpAnyH P md ops Q S (fuel+1) listed a w:=wpAnyH_ready hr hne h
theorem rd (i:Nat){o:Oper}(h:∀K':Act->World->Prop,Shut (∀a w,S w-> (S w->wpAnyH P md ops Q S fuel (listed.setIfInBounds i true) a w)->K' a w)->if Region.wanted o (yielded ops a.tmps) =true then Oper.wp P o a w K' Q else K' (a.put o.dst undef) w)
 (hr:Region.ready md ops listed= [i] :=by kernel_rfl)(ho:ops[i]? =some o:=by(simp only[List.getElem?_toArray,List.getElem?_cons_succ,List.getElem?_cons_zero]) <;>rfl) :wpAnyH P md ops Q S (fuel+1) listed a w:=wpAnyH_ready hr (by simp) (.cons ho h .nil)
end
theorem bw {α:Type _}{i:Nat}{x:α}{l:List α} :l.toArray.setIfInBounds i x= (l.set i x).toArray:=List.setIfInBounds_toArray ..
theorem bx {α:Type _}{x y:α}{l:List α} : (x::l).set 0 y=y::l:=List.set_cons_zero ..
theorem bz {α:Type _}{x y:α}{i:Nat}{l:List α} : (x::l).set (i+1) y=x::l.set i y:=List.set_cons_succ ..
theorem aa {p:Prop}(h:p) :Hid p:=Lib.hid h
theorem aj {n:Nat} :n<=n:=Nat.le_refl n
theorem au {B:Nat}{w:World} :Below B w w:=Below.refl B w
end
namespace Pxr
open Go.Lib
def cy (n:Nat) :List Int:= (decDigits n).map fun b=> (b.toNat:Int)
def xj (z:Int) :Bool:=decide (48<=z) &&decide (z<=57)
def dw (zs:List Int) :Nat:=zs.foldl (fun n z=>10*n+ (z- 48).toNat) 0
def ch (zs:List Int) :Bool:=!zs.isEmpty&&zs.all xj&& (decide (zs.getD 0 0≠48) ||decide (zs.length=1))
theorem nA {P:List Int->Prop}(nil:P [])(append_singleton:∀ys z,P ys->P (ys++ [z]))(zs:List Int) :P zs:=by
 rw[<- List.reverse_reverse zs];generalize zs.reverse=l
 induction l with
 |nil=>exact nil
 |cons a l ih=>rw[List.reverse_cons];exact append_singleton _ _ ih
theorem dD (z:Int) :xj z=true↔48<=z/\z<=57:=by unfold xj;simp
theorem kV {n:Nat}(h:n<10) : ((UInt8.ofNat (48+n)).toNat:Int) =48+ (n:Int) :=by
 rw[UInt8.toNat_ofNat'];omega
theorem ep {n:Nat}(h:n<10) :cy n= [48+ (n:Int)] :=by
 unfold cy;rw[decDigits,dif_pos h,List.map_cons,List.map_nil,kV h]
theorem gV {n:Nat}(h:¬n<10) :cy n=cy (n/10) ++ [48+ ((n % 10:Nat) :Int)] :=by
 unfold cy;rw[decDigits,dif_neg h,List.map_append,List.map_cons,List.map_nil,kV (Nat.mod_lt _ (by decide))]
theorem jo (n:Nat) : (cy n).length=nDigits n:=by unfold cy;rw[List.length_map,decDigits_length]
theorem tS (n:Nat) :cy n≠ [] :=fun h=>by
 have:=jo n;rw[h]at this;have:=nDigits_pos n;simp at*;omega
theorem gh (zs:List Int)(z:Int) :dw (zs++ [z]) =10*dw zs+ (z- 48).toNat:=by unfold dw;rw[List.foldl_append];rfl
theorem xh:dw [] =0:=rfl
theorem vk (n:Nat) :dw (cy n) =n:=by
 induction n using Nat.strongRecOn with
 |_ n ih=>
  by_cases h:n<10
  ·rw[ep h];show 10*0+ (48+ (n:Int) - 48).toNat=n;omega
  ·rw[gV h,gh,ih (n/10) (by omega)];omega
theorem fZ (n:Nat) : (cy n).all xj=true:=by
 induction n using Nat.strongRecOn with
 |_ n ih=>
  by_cases h:n<10
  ·rw[ep h,List.all_cons,List.all_nil,Bool.and_true,dD];omega
  ·rw[gV h,List.all_append,ih (n/10) (by omega),Bool.true_and,List.all_cons,List.all_nil,Bool.and_true,dD];omega
theorem vj (n:Nat)(h1:1<=n) : (cy n).getD 0 0≠48:=by
 induction n using Nat.strongRecOn with
 |_ n ih=>
  by_cases h:n<10
  ·rw[ep h];show(48+ (n:Int))≠48;omega
  ·have hne:=tS (n/10);have:=ih (n/10) (by omega) (by omega);rw[gV h]
   cases hc:cy (n/10)with
   |nil=>exact absurd hc hne
   |cons a l=>rw[hc]at this;exact this
theorem zZ (n:Nat) :ch (cy n) =true:=by
 unfold ch;rw[fZ,Bool.and_true];have hne:=tS n
 have: (cy n).isEmpty=false:=by cases hc:cy n with
  |nil=>exact absurd hc hne
  |cons _ _=>rfl
 rw[this,Bool.not_false,Bool.true_and];by_cases h:n<10
 ·rw[ep h];simp
 ·rw[decide_eq_true (vj n (by omega))];rfl
theorem xi:∀(zs:List Int),zs.all xj=true->zs≠ []->zs.getD 0 0≠48->1<=dw zs:=by
 intro zs
 induction zs using nA with
 |nil=>intro _ h;exact absurd rfl h
 |append_singleton ys z ih=>
  intro ha _ hh;rw[gh];rw[List.all_append,Bool.and_eq_true]at ha;rcases List.eq_nil_or_concat ys with rfl|⟨_,_,hy⟩
  ·have h1:=ha.2;rw[List.all_cons,List.all_nil,Bool.and_true,dD]at h1
   change z≠48 at hh
   omega
  ·have hne:ys≠ [] :=by rw[hy];simp
   have:=ih ha.1 hne (by
    cases ys with
    |nil=>exact absurd rfl hne
    |cons a l=>exact hh)
   omega
theorem vi:∀(zs:List Int),ch zs=true->cy (dw zs) =zs:=by
 intro zs
 induction zs using nA with
 |nil=>intro h;exact absurd h (by decide)
 |append_singleton ys z ih=>
  intro h;unfold ch at h;rw[Bool.and_eq_true,Bool.and_eq_true]at h;obtain⟨⟨_,ha⟩,hh⟩:=h;rw[List.all_append,Bool.and_eq_true]at ha;have h1:=ha.2;rw[List.all_cons,List.all_nil,Bool.and_true,dD]at h1;rw[gh];rcases List.eq_nil_or_concat ys with rfl|⟨_,_,hy⟩
  ·rw[xh,ep (by omega)];show [_] = [z]
   congr 1
   omega
  ·have hne:ys≠ [] :=by rw[hy];simp
   have hl:ys.length≠0:=fun h=>hne (List.length_eq_zero_iff.1 h)
   have hd:ys.getD 0 0≠48:=by
    rw[Bool.or_eq_true,decide_eq_true_eq,decide_eq_true_eq,List.length_append,List.length_singleton]at hh;rcases hh with hh|hh
    ·cases ys with
     |nil=>exact absurd rfl hne
     |cons a l=>exact hh
    ·omega
   have hp:=xi ys ha.1 hne hd
   have hok:ch ys=true:=by
    unfold ch;rw[ha.1,decide_eq_true hd]
    cases ys with
    |nil=>exact absurd rfl hne
    |cons a l=>rfl
   have e:=ih hok;rw[gV (by omega)];rw[show(10*dw ys+ (z- 48).toNat) /10=dw ys by omega,e]
   congr 2
   omega
theorem vl (xs ys:List Int) :dw xs<=dw (xs++ys) :=by
 induction ys using nA with
 |nil=>rw[List.append_nil];exact aj
 |append_singleton ys z ih=>rw[<- List.append_assoc,gh];omega
theorem pv (zs:List Int)(k:Nat) :dw (zs.take k)<=dw zs:=by
 have:=vl (zs.take k) (zs.drop k);rwa [List.take_append_drop]at this
theorem gX (zs:List Int)(k:Nat)(h:k<zs.length) :dw (zs.take (k+1)) =10*dw (zs.take k) + (zs.getD k 0- 48).toNat:=by
 rw[List.take_succ_eq_append_getElem h,gh,List.getD_eq_getElem?_getD,List.getElem?_eq_getElem h];rfl
theorem iv (zs:List Int) :ch zs=true↔zs≠ []/\ (∀k,k<zs.length->48<=zs.getD k 0/\zs.getD k 0<=57)/\ (zs.getD 0 0=48->zs.length=1) :=by
 unfold ch;rw[Bool.and_eq_true,Bool.and_eq_true,Bool.or_eq_true,decide_eq_true_eq,decide_eq_true_eq];constructor
 ·rintro⟨⟨h1,h2⟩,h3⟩;refine⟨fun e=> (by rw[e]at h1;cases h1),fun k hk=>?_,fun e=>h3.resolve_left (fun h=>h e)⟩;rw[List.all_eq_true]at h2;have:=h2 _ (List.getElem_mem hk);rw[dD]at this;rw[List.getD_eq_getElem?_getD,List.getElem?_eq_getElem hk];exact this
 ·rintro⟨h1,h2,h3⟩;refine⟨⟨?_,?_⟩,?_⟩
  ·cases zs with
   |nil=>exact absurd rfl h1
   |cons _ _=>rfl
  ·rw[List.all_eq_true];intro z hz;obtain⟨k,hk,rfl⟩:=List.getElem_of_mem hz;have:=h2 k hk;rw[List.getD_eq_getElem?_getD,List.getElem?_eq_getElem hk]at this;exact(dD _).2 this
  ·by_cases e:zs.getD 0 0=48
   ·exact .inr (h3 e)
   ·exact .inl e
theorem pL {a b:Nat}(h:a<=b) :nDigits a<=nDigits b:=by
 induction b using Nat.strongRecOn generalizing a with
 |_ b ih=>
  by_cases hb:b<10
  ·rw[nDigits_small hb,nDigits_small (by omega)];exact aj
  ·rw[nDigits_big hb];by_cases ha:a<10
   ·rw[nDigits_small ha];omega
   ·rw[nDigits_big ha];have:=ih (b/10) (by omega) (show a/10<=b/10 by omega);omega
theorem dq:∀(k n:Nat),n<10^ (k+1)->nDigits n<=k+1
 |0,n,h=>by rw[nDigits_small (by simpa using h)];exact aj
 |k+1,n,h=>by
  by_cases hn:n<10
  ·rw[nDigits_small hn];omega
  ·rw[nDigits_big hn];rw[Nat.pow_succ]at h;have:=dq k (n/10) (by omega);omega
def tm:Nat->Nat->Nat->Nat
 |0,D,_=>D
 |f+1,D,rest=>if nDigits (D+rest)<=D then D else tm f (D+1) rest
def qm (rest:Nat) :Nat:=tm 7 1 rest
def rX (rest:Nat) :Nat:=qm rest+rest
theorem rW (rest:Nat) :∀(f D:Nat),1<=D->nDigits (D+f+rest)<=D+f-> (∀d,1<=d->d<D->¬nDigits (d+rest)<=d)->
 D<=tm f D rest/\tm f D rest<=D+f/\nDigits (tm f D rest+rest)<=tm f D rest/\∀d,1<=d->d<tm f D rest->¬nDigits (d+rest)<=d
 |0,D,h1,h2,h3=>⟨aj,aj,h2,h3⟩
 |f+1,D,h1,h2,h3=>by
  unfold tm;by_cases h:nDigits (D+rest)<=D
  ·rw[if_pos h];exact⟨aj,by omega,h,h3⟩
  ·rw[if_neg h]
   obtain⟨a,b,c,d⟩:=rW rest f (D+1) (by omega) (by rw[show D+1+f=D+ (f+1) by omega];exact h2) (fun d DX hd2=>by
    by_cases e:d=D
    ·rw[e];exact h
    ·exact h3 d DX (by omega))
   exact⟨by omega,by omega,c,d⟩
theorem jS {rest:Nat}(hr:rest<=1000000) :1<=qm rest/\qm rest<=8/\nDigits (qm rest+rest) =qm rest/\∀d,1<=d->d<qm rest->d<nDigits (d+rest) :=by
 have h8:nDigits (1+7+rest)<=1+7:=dq 7 _ (by
  have: (10:Nat) ^ (7+1) =100000000:=by decide
  omega)
 obtain⟨a,b,c,d⟩:=rW rest 7 1 aj h8 (fun d h1 h2=>by omega);refine⟨a,b,?_,fun d' h1 h2=>by have:=d d' h1 h2;omega⟩
 change nDigits (qm rest+rest)<=qm rest at c
 change 1<=qm rest at a
 by_cases e:qm rest=1
 ·rw[e]at c⊢;have:=nDigits_pos (1+rest);omega
 ·have:=d (qm rest- 1) (by omega) (by show qm rest- 1<qm rest;omega);have m:=pL (show qm rest- 1+rest<=qm rest+rest by omega);omega
theorem uL {rest:Nat}(hr:rest<=1000000) :nDigits (rX rest) +rest=rX rest:=by
 have:= (jS hr).2.2.1;unfold rX;omega
theorem tn {rest:Nat}(hr:rest<=1000000) :rest+1<=rX rest/\rX rest<=rest+8:=by
 have:=jS hr;unfold rX;omega
theorem vX {rest m:Nat}(hr:rest<=1000000)(h:nDigits m+rest=m) :rX rest<=m:=by
 obtain⟨_,_,_,h4⟩:=jS hr;unfold rX;by_cases c:qm rest+rest<=m
 ·exact c
 ·have h1:m- rest=nDigits m:=by omega
  have h2:=nDigits_pos m;have:=h4 (m- rest) (by omega) (by omega);rw[show m- rest+rest=m by omega]at this;omega
theorem zh {f D rest:Nat}(h:nDigits (D+rest)<=D) :tm f D rest=D:=by
 cases f with
 |zero=>rfl
 |succ f=>unfold tm;rw[if_pos h]
theorem Dy {f D rest:Nat}(h:¬nDigits (D+rest)<=D) :tm (f+1) D rest=tm f (D+1) rest:=by
 conv=>lhs;unfold tm
 rw[if_neg h]
end Pxr
section
open Go.RowKit
theorem gw {z:Int}(h1:0<=z)(h2:z<=9223372036854775807) :IntKind.i64.wrap z=z:=by
 have hb:IntKind.i64.bits=64:=rfl;have hs:IntKind.i64.signed=true:=rfl;unfold IntKind.wrap;simp only[hb,hs,Bool.true_and];have e: (2:Int) ^64=18446744073709551616:=by decide
 have e': (2:Int) ^ (64- 1) =9223372036854775808:=by decide
 rw[e,e',Int.emod_eq_of_lt h1 (by omega),if_neg (by simp;omega)]
theorem cV {s t:ByteArray}(h:¬s=t) : (s.toList==t.toList) =false:=by
 rw[beq_eq_false_iff_ne]
 exact fun e=>h (by
  apply ByteArray.ext;apply Array.ext';rw[ByteArray.toList_eq,ByteArray.toList_eq]at e;exact e)
theorem cE {s:ByteArray}(h:¬s= {data:= #[]}) :s.toList.isEmpty=false:=by
 have h1:=cV h;have e: ({data:= #[]} :ByteArray).toList= [] :=by rw[ByteArray.toList_eq]
 rw[e]at h1
 cases hl:s.toList with
 |nil=>rw[hl]at h1;simp at h1
 |cons x xs=>rfl
theorem dZ (s t:ByteArray) :ad (s++t) =ad s++ad t:=by
 unfold ad;rw[ByteArray.data_append,Array.toList_append,List.map_append]
theorem dC (s:ByteArray)(j:Nat)(h:j<s.size) : (ad s).getD j 0= (s[j].toNat:Int) :=by
 have h1: (ad s)[j]? =some (s[j].toNat:Int) :=by
  unfold ad;rw[List.getElem?_map,Array.getElem?_toList,Array.getElem?_eq_getElem (by exact h)];rfl
 rw[List.getD_eq_getElem?_getD,h1];rfl
theorem gm (s:ByteArray)(a b:Nat) :ad (s.extract a b) = ((ad s).drop a).take (b- a) :=by
 unfold ad;rw[ByteArray.data_extract,Array.toList_extract,List.extract_eq_take_drop,List.map_take,List.map_drop]
theorem fg (s:ByteArray)(a b:Nat) :s.extract a b=strOfNums (((ad s).drop a).take (b- a)) :=by
 rw[<- gm,aJ]
theorem bQ {s t:ByteArray}(h:ad s=ad t) :s=t:=by rw[<- aJ s,<- aJ t,h]
theorem xB (s:ByteArray)(c:UInt8) :0<=Lib.indexByte s.data.toList c↔(c.toNat:Int)∈ad s:=by
 constructor
 ·intro h;obtain⟨o,ho⟩:∃o:Nat,Lib.indexByte s.data.toList c=o:=⟨(Lib.indexByte s.data.toList c).toNat,by omega⟩;have h1:= (Lib.indexByte_some ho).1;rw[cn,List.mem_map];exact⟨c,List.mem_of_getElem? h1,rfl⟩
 ·intro h;rw[cn,List.mem_map]at h;obtain⟨b,hb,h0⟩:=h
  obtain rfl:b=c:=by
   apply UInt8.toNat_inj.1;omega
  rcases Int.lt_or_le (Lib.indexByte s.data.toList b) 0 with h|h
  ·exfalso;have h1:=Lib.indexByte_ge s.data.toList b;obtain⟨k,hk⟩:=List.getElem?_of_mem hb;exact Lib.indexByte_none (c:=b) (by omega) k hk
  ·exact h
end
namespace Pxr
open Go.Lib Go.RowKit
abbrev Rec:=ByteArray×ByteArray
abbrev aM:ByteArray:= {data:= #[108,105,110,107,112,97,116,104]}
abbrev aG:ByteArray:= {data:= #[112,97,116,104]}
abbrev aL:ByteArray:= {data:= #[115,105,122,101]}
def eo (v:ByteArray) :Int:=if 65536<v.size then 7 else if v.size=0\/ (0:Int)∈ad v then 6 else 0
def nW (v:ByteArray) :Int:=if ch (ad v) =false then 6 else if 1099511627776<dw (ad v)then 3 else 0
def cA (r:Rec) :Int:=if r.1=aM\/r.1=aG then eo r.2 else if r.1=aL then nW r.2 else 17
def jv (a b:ByteArray) :Bool:=Op.bytesLess a.toList b.toList||a.toList==b.toList
def il (before:List Rec)(k:ByteArray) :Bool:=match before.getLast? with
 |none=>false
 |some q=>jv k q.1
def dV (before:List Rec)(r:Rec) :Int:=if cA r≠0 then cA r else if il before r.1=true then 12 else 0
def gP:List Rec->List Rec->Int
 |_,[] =>0
 |before,r::rs=>if dV before r≠0 then dV before r else gP (before++ [r]) rs
theorem gZ (before:List Rec)(r:Rec)(rs:List Rec) :gP before (r::rs) =if dV before r≠0 then dV before r else gP (before++ [r]) rs:=rfl
def lx (r:Rec) :Nat:=r.1.size+r.2.size+3
def kd (r:Rec) :Nat:=rX (lx r)
def pw (r:Rec) :List Int:=cy (kd r) ++ [32] ++ad r.1++ [61] ++ad r.2++ [10]
def fJ (rs:List Rec) :List Int:= (rs.map pw).flatten
theorem Ag:fJ [] = [] :=rfl
theorem qR (rs:List Rec)(r:Rec) :fJ (rs++ [r]) =fJ rs++pw r:=by unfold fJ;simp
theorem qQ (r:Rec)(rs:List Rec) :fJ (r::rs) =pw r++fJ rs:=by unfold fJ;simp
structure Good (r:Rec) :Prop where
 key:r.1.size<=8
 val:r.2.size<=65536
 eq: (61:Int)∉ad r.1
 idx:r.1=aM\/r.1=aG\/r.1=aL
theorem vn {zs:List Int}(h:ch zs=true)(hv:dw zs<=1099511627776) :zs.length<=13:=by
 rw[<- vi zs h,jo];refine dq 12 _ ?_;have: (10:Nat) ^ (12+1) =10000000000000:=by decide
 omega
theorem lG {r:Rec}(h:cA r=0) :Good r:=by
 obtain⟨k,v⟩:=r;unfold cA at h;dsimp only at h;by_cases h1:k=aM\/k=aG
 ·rw[if_pos h1]at h;unfold eo at h
  have hv:v.size<=65536:=by
   by_cases hv:65536<v.size
   ·rw[if_pos hv]at h;omega
   ·omega
  rcases h1 with rfl|rfl
  ·exact⟨(by decide:aM.size<=8),hv,(by decide: (61:Int)∉ad aM),.inl rfl⟩
  ·exact⟨(by decide:aG.size<=8),hv,(by decide: (61:Int)∉ad aG),.inr (.inl rfl)⟩
 ·rw[if_neg h1]at h;by_cases h2:k=aL
  ·rw[if_pos h2]at h;subst h2;unfold nW at h;by_cases h3:ch (ad v) =false
   ·rw[if_pos h3]at h;omega
   ·rw[if_neg h3]at h;by_cases h4:1099511627776<dw (ad v)
    ·rw[if_pos h4]at h;omega
    ·have:=vn (by simpa using h3) (by omega:dw (ad v)<=1099511627776);rw[ah]at this;exact⟨(by decide:aL.size<=8),by show v.size<=65536;omega,(by decide: (61:Int)∉ad aL),.inr (.inr rfl)⟩
  ·rw[if_neg h2]at h;omega
theorem Good.lx {r:Rec}(h:Good r) :lx r<=65547:=by have:=h.key;have:=h.val;unfold Pxr.lx;omega
theorem Good.sz {r:Rec}(h:Good r) :kd r<=65555:=by
 have:=tn (rest:=Pxr.lx r) (by have:=h.lx;omega);have:=h.lx;unfold kd;omega
theorem js {r:Rec}(h:lx r<=1000000) : (pw r).length=kd r:=by
 unfold pw;have:=uL h;have e:nDigits (kd r) +lx r=kd r:=this;simp only[List.length_append,List.length_singleton,jo,ah];unfold lx at e;omega
theorem ow {b:List Rec}{r:Rec}(h:dV b r=0) :cA r=0/\il b r.1=false:=by
 unfold dV at h;by_cases h1:cA r≠0
 ·rw[if_pos h1]at h;exact absurd h h1
 ·rw[if_neg h1]at h;refine⟨by simpa using h1,?_⟩;by_cases h2:il b r.1=true
  ·rw[if_pos h2]at h;omega
  ·simpa using h2
def Fa (k:ByteArray) :Nat:=if k=aM then 0 else if k=aG then 1 else if k=aL then 2 else 3
theorem jw {a b:ByteArray}(ha:a=aM\/a=aG\/a=aL)(hb:b=aM\/b=aG\/b=aL) :jv a b=decide (Fa a<=Fa b) :=by
 have l1:aM.toList= [108,105,110,107,112,97,116,104] :=by rw[ByteArray.toList_eq]
 have l2:aG.toList= [112,97,116,104] :=by rw[ByteArray.toList_eq]
 have l3:aL.toList= [115,105,122,101] :=by rw[ByteArray.toList_eq]
 rcases ha with rfl|rfl|rfl<;>rcases hb with rfl|rfl|rfl<;>unfold jv<;>simp only[l1,l2,l3] <;>decide
theorem ub:∀(rs before:List Rec),gP before rs=0-> (∀q,before.getLast? =some q->Good q)->rs.length<=3- (match before.getLast? with|none=>0|some q=>Fa q.1+1)
 | [],_,_,_=>Nat.zero_le _
 |r::rs,before,h,hb=>by
  unfold gP at h;by_cases h1:dV before r≠0
  ·rw[if_pos h1]at h;exact absurd h h1
  ·rw[if_neg h1]at h;obtain⟨g1,g2⟩:=ow (by simpa using h1);have G:=lG g1
   have ih:=ub rs (before++ [r]) h (fun q hq=>by
    rw[List.getLast?_append,List.getLast?_singleton,Option.some_or]at hq;cases hq;exact G)
   rw[List.getLast?_append,List.getLast?_singleton,Option.some_or]at ih;dsimp only at ih;rw[List.length_cons]
   have k2:Fa r.1<=2:=by
    rcases G.idx with e|e|e<;>rw[e] <;>decide
   unfold il at g2
   cases hl:before.getLast? with
   |none=>dsimp only;omega
   |some q=>
    rw[hl]at g2;dsimp only at g2⊢;rw[jw G.idx (hb q hl).idx,decide_eq_false_iff_not]at g2;omega
theorem vq {rs:List Rec}(h:gP [] rs=0) :rs.length<=3:=ub rs [] h (fun _ h=>by cases h)
theorem ml:∀(rs before:List Rec),gP before rs=0->∀r∈rs,Good r/\cA r=0
 | [],_,_,r,hr=>by cases hr
 |a::rs,before,h,r,hr=>by
  unfold gP at h;by_cases h1:dV before a≠0
  ·rw[if_pos h1]at h;exact absurd h h1
  ·rw[if_neg h1]at h;obtain⟨g1,g2⟩:=ow (by simpa using h1);rcases List.mem_cons.1 hr with rfl|hr
   ·exact⟨lG g1,g1⟩
   ·exact ml rs _ h r hr
theorem tZ:∀(a b before:List Rec),gP before (a++b) =0↔gP before a=0/\gP (before++a) b=0
 | [],b,before=>by rw[List.append_nil,List.nil_append];exact⟨fun h=>⟨rfl,h⟩,fun h=>h.2⟩
 |r::a,b,before=>by
  rw[List.cons_append,gZ,gZ];by_cases h1:dV before r≠0
  ·rw[if_pos h1,if_pos h1];exact⟨fun h=>absurd h h1,fun h=>absurd h.1 h1⟩
  ·rw[if_neg h1,if_neg h1,tZ a b (before++ [r]),List.append_assoc,List.singleton_append]
theorem sF {rs:List Rec}(h:gP [] rs=0)(k:Nat) : (fJ (rs.take k)).length<=65555*3:=by
 have h3:=vq h
 have key:∀l:List Rec,(∀r∈l,Good r)-> (fJ l).length<=65555*l.length:=by
  intro l
  induction l with
  |nil=>intro _;rw[Ag];exact Nat.zero_le _
  |cons a l ih=>
   intro hl;rw[qQ,List.length_append,List.length_cons];have:=ih (fun r hr=>hl r (List.mem_cons_of_mem _ hr));have hG:=hl a (List.mem_cons_self ..);rw[js (by have:=hG.lx;omega)];have:=hG.sz;omega
 have:=key (rs.take k) (fun r hr=> (ml rs [] h r (List.mem_of_mem_take hr)).1);rw[List.length_take]at this;have:min k rs.length<=3:=by omega
 omega
end Pxr
end Go.Proofs.YtcjagakckffkiaaGreatDoor
