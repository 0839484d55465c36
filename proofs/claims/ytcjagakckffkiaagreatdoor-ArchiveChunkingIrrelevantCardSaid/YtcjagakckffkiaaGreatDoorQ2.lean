import Derived.Test.YtcjagakckffkiaaGreatDoorQ1
import GoSem.Op.String
set_option maxHeartbeats 16000000
namespace Go.Proofs.YtcjagakckffkiaaGreatDoor.bL
open Go.Lib Go.RowKit
abbrev Rec:=ByteArray×ByteArray
abbrev aQ:ByteArray:= {data:= #[108,105,110,107,112,97,116,104]}
abbrev aM:ByteArray:= {data:= #[112,97,116,104]}
abbrev aS:ByteArray:= {data:= #[115,105,122,101]}
def iC (v:ByteArray) :Int:=if 65536<v.size then 7 else if v.size=0\/ (0:Int)∈af v then 6 else 0
def sD (v:ByteArray) :Int:=if cU (af v) =false then 6 else if 1099511627776<gi (af v)then 3 else 0
def dA (r:Rec) :Int:=if r.1=aQ\/r.1=aM then iC r.2 else if r.1=aS then sD r.2 else 17
def pw (a b:ByteArray) :Bool:=Op.bytesLess a.toList b.toList||a.toList==b.toList
def ki (before:List Rec)(k:ByteArray) :Bool:=match before.getLast? with
 |none=>false
 |some q=>pw k q.1
def eI (before:List Rec)(r:Rec) :Int:=if dA r≠0 then dA r else if ki before r.1=true then 12 else 0
def kK:List Rec->List Rec->Int
 |_,[] =>0
 |before,r::rs=>if eI before r≠0 then eI before r else kK (before++ [r]) rs
theorem gU (before:List Rec)(r:Rec)(rs:List Rec) :kK before (r::rs) =if eI before r≠0 then eI before r else kK (before++ [r]) rs:=rfl
def mB (r:Rec) :Nat:=r.1.size+r.2.size+3
def lv (r:Rec) :Nat:=pA (mB r)
def lA (r:Rec) :List Int:=dq (lv r) ++ [32] ++af r.1++ [61] ++af r.2++ [10]
def dR (rs:List Rec) :List Int:= (rs.map lA).flatten
theorem nj:dR [] = [] :=rfl
theorem nJ (rs:List Rec)(r:Rec) :dR (rs++ [r]) =dR rs++lA r:=by unfold dR;simp
theorem iL (r:Rec)(rs:List Rec) :dR (r::rs) =lA r++dR rs:=by unfold dR;simp
structure Good (r:Rec) :Prop where
 key:r.1.size<=8
 val:r.2.size<=65536
 eq: (61:Int)∉af r.1
 idx:r.1=aQ\/r.1=aM\/r.1=aS
theorem td {zs:List Int}(h:cU zs=true)(hv:gi zs<=1099511627776) :zs.length<=13:=by
 rw[<- tw zs h,jZ];refine gQ 12 _ ?_;have: (10:Nat) ^ (12+1) =10000000000000:=by decide
 omega
theorem qi {r:Rec}(h:dA r=0) :Good r:=by
 obtain⟨k,v⟩:=r;unfold dA at h;dsimp only at h;by_cases h1:k=aQ\/k=aM
 ·rw[if_pos h1]at h;unfold iC at h
  have hv:v.size<=65536:=by
   by_cases hv:65536<v.size
   ·rw[if_pos hv]at h;omega
   ·omega
  rcases h1 with rfl|rfl
  ·exact⟨(by decide:aQ.size<=8),hv,(by decide: (61:Int)∉af aQ),.inl rfl⟩
  ·exact⟨(by decide:aM.size<=8),hv,(by decide: (61:Int)∉af aM),.inr (.inl rfl)⟩
 ·rw[if_neg h1]at h;by_cases h2:k=aS
  ·rw[if_pos h2]at h;subst h2;unfold sD at h;by_cases h3:cU (af v) =false
   ·rw[if_pos h3]at h;omega
   ·rw[if_neg h3]at h;by_cases h4:1099511627776<gi (af v)
    ·rw[if_pos h4]at h;omega
    ·have:=td (by simpa using h3) (by omega:gi (af v)<=1099511627776);rw[an]at this;exact⟨(by decide:aS.size<=8),by show v.size<=65536;omega,(by decide: (61:Int)∉af aS),.inr (.inr rfl)⟩
  ·rw[if_neg h2]at h;omega
theorem Good.mB {r:Rec}(h:Good r) :mB r<=65547:=by have:=h.key;have:=h.val;unfold bL.mB;omega
theorem Good.sz {r:Rec}(h:Good r) :lv r<=65555:=by
 have:=Fw (rest:=bL.mB r) (by have:=h.mB;omega);have:=h.mB;unfold lv;omega
theorem jf {r:Rec}(h:mB r<=1000000) : (lA r).length=lv r:=by
 unfold lA;have:=Ar h;have e:nDigits (lv r) +mB r=lv r:=this;simp only[List.length_append,List.length_singleton,jZ,an];unfold mB at e;omega
theorem oJ {b:List Rec}{r:Rec}(h:eI b r=0) :dA r=0/\ki b r.1=false:=by
 unfold eI at h;by_cases h1:dA r≠0
 ·rw[if_pos h1]at h;exact absurd h h1
 ·rw[if_neg h1]at h;refine⟨by simpa using h1,?_⟩;by_cases h2:ki b r.1=true
  ·rw[if_pos h2]at h;omega
  ·simpa using h2
def Ql (k:ByteArray) :Nat:=if k=aQ then 0 else if k=aM then 1 else if k=aS then 2 else 3
theorem nA {a b:ByteArray}(ha:a=aQ\/a=aM\/a=aS)(hb:b=aQ\/b=aM\/b=aS) :pw a b=decide (Ql a<=Ql b) :=by
 have l1:aQ.toList= [108,105,110,107,112,97,116,104] :=by rw[ByteArray.toList_eq]
 have l2:aM.toList= [112,97,116,104] :=by rw[ByteArray.toList_eq]
 have l3:aS.toList= [115,105,122,101] :=by rw[ByteArray.toList_eq]
 rcases ha with rfl|rfl|rfl<;>rcases hb with rfl|rfl|rfl<;>unfold pw<;>simp only[l1,l2,l3] <;>decide
theorem zO:∀(rs before:List Rec),kK before rs=0-> (∀q,before.getLast? =some q->Good q)->rs.length<=3- (match before.getLast? with|none=>0|some q=>Ql q.1+1)
 | [],_,_,_=>Nat.zero_le _
 |r::rs,before,h,hb=>by
  unfold kK at h;by_cases h1:eI before r≠0
  ·rw[if_pos h1]at h;exact absurd h h1
  ·rw[if_neg h1]at h;obtain⟨g1,g2⟩:=oJ (by simpa using h1);have G:=qi g1
   have ih:=zO rs (before++ [r]) h (fun q hq=>by
    rw[List.getLast?_append,List.getLast?_singleton,Option.some_or]at hq;cases hq;exact G)
   rw[List.getLast?_append,List.getLast?_singleton,Option.some_or]at ih;dsimp only at ih;rw[List.length_cons]
   have k2:Ql r.1<=2:=by
    rcases G.idx with e|e|e<;>rw[e] <;>decide
   unfold ki at g2
   cases hl:before.getLast? with
   |none=>dsimp only;omega
   |some q=>
    rw[hl]at g2;dsimp only at g2⊢;rw[nA G.idx (hb q hl).idx,decide_eq_false_iff_not]at g2;omega
theorem tH {rs:List Rec}(h:kK [] rs=0) :rs.length<=3:=zO rs [] h (fun _ h=>by cases h)
theorem kr:∀(rs before:List Rec),kK before rs=0->∀r∈rs,Good r/\dA r=0
 | [],_,_,r,hr=>by cases hr
 |a::rs,before,h,r,hr=>by
  unfold kK at h;by_cases h1:eI before a≠0
  ·rw[if_pos h1]at h;exact absurd h h1
  ·rw[if_neg h1]at h;obtain⟨g1,g2⟩:=oJ (by simpa using h1);rcases List.mem_cons.1 hr with rfl|hr
   ·exact⟨qi g1,g1⟩
   ·exact kr rs _ h r hr
theorem Bh:∀(a b before:List Rec),kK before (a++b) =0↔kK before a=0/\kK (before++a) b=0
 | [],b,before=>by rw[List.append_nil,List.nil_append];exact⟨fun h=>⟨rfl,h⟩,fun h=>h.2⟩
 |r::a,b,before=>by
  rw[List.cons_append,gU,gU];by_cases h1:eI before r≠0
  ·rw[if_pos h1,if_pos h1];exact⟨fun h=>absurd h h1,fun h=>absurd h.1 h1⟩
  ·rw[if_neg h1,if_neg h1,Bh a b (before++ [r]),List.append_assoc,List.singleton_append]
theorem Gt {rs:List Rec}(h:kK [] rs=0)(k:Nat) : (dR (rs.take k)).length<=65555*3:=by
 have h3:=tH h
 have key:∀l:List Rec,(∀r∈l,Good r)-> (dR l).length<=65555*l.length:=by
  intro l
  induction l with
  |nil=>intro _;rw[nj];exact Nat.zero_le _
  |cons a l ih=>
   intro hl;rw[iL,List.length_append,List.length_cons];have:=ih (fun r hr=>hl r (List.mem_cons_of_mem _ hr));have hG:=hl a (List.mem_cons_self ..);rw[jf (by have:=hG.mB;omega)];have:=hG.sz;omega
 have:=key (rs.take k) (fun r hr=> (kr rs [] h r (List.mem_of_mem_take hr)).1);rw[List.length_take]at this;have:min k rs.length<=3:=by omega
 omega
end Go.Proofs.YtcjagakckffkiaaGreatDoor.bL
