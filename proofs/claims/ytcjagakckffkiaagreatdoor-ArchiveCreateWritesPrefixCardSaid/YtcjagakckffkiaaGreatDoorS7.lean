import Derived.Test.YtcjagakckffkiaaGreatDoorS6
import Derived.Deep.RegionLaw
import Derived.Deep.Matrix
import Derived.Deep.Grids
import Derived.SizedLaws
import Derived.Deep.Strs
import Derived.Test.YtcjagakckffkiaaGreatDoorS5
import Derived.Lib.LaidTab
import Derived.ChangeArms
import Derived.Stop.LaidErr
import Derived.MakeChecks
set_option maxHeartbeats 16000000
set_option maxRecDepth 100000
namespace Go.Proofs.YtcjagakckffkiaaGreatDoor
namespace Flt
open Go.RowKit Go.Proofs.YtcjagakckffkiaaGreatDoor.Fit Pnm Tre
structure Mb where
 e:fM
 d:List Int
def mt (c:Int)(y:Nd) :Bool:=decide (0<y.c/\y.c=c)
def fr (C:List Nd)(i:Nat)(c:Int) :Option Nd:= (C.take i).find? (mt c)
def Ec (x:Nd)(q:ByteArray) :Mb:=⟨⟨3,x.p,x.m,q,0⟩,[]⟩
def vA (x:Nd) :Mb:=⟨gj x,x.d⟩
def mb (C:List Nd)(i:Nat) :Mb:=match fr C i (nd C i).c with|some y=>Ec (nd C i) y.p|none=>vA (nd C i)
def uq (C:List Nd) :List Mb:= (List.range C.length).map (mb C)
theorem fi (C:List Nd) : (uq C).length=C.length:=by unfold uq;rw[List.length_map,List.length_range]
theorem iS {C:List Nd}{i:Nat}(h:i<C.length) : (uq C)[i]? =some (mb C i) :=by
 unfold uq;rw[List.getElem?_map,List.getElem?_range h];rfl
theorem eJ {C:List Nd}{i:Nat}{y:Nd}(h:fr C i (nd C i).c=some y) :mb C i=Ec (nd C i) y.p:=by unfold mb;rw[h]
theorem dz {C:List Nd}{i:Nat}(h:fr C i (nd C i).c=none) :mb C i=vA (nd C i) :=by unfold mb;rw[h]
theorem fO {C:List Nd}{i:Nat}{c:Int}(hi:i<=C.length) :fr C i c=none↔∀j,j<i->¬(0< (nd C j).c/\ (nd C j).c=c) :=by
 unfold fr;rw[List.find?_eq_none];constructor
 ·intro h j hj;have hl:j<C.length:=by omega
  have:=h (nd C j) (by rw[ct hl];exact List.mem_take_iff_getElem.mpr ⟨j,by omega,rfl⟩)
  simpa [mt]using this
 ·intro h y hy;obtain⟨j,hj,rfl⟩:=List.mem_take_iff_getElem.mp hy;have:=h j (by omega);rw[ct (by omega)]at this
  simpa [mt]using this
theorem lF {C:List Nd}{i:Nat}{c:Int}{y:Nd}(hi:i<=C.length)(h:fr C i c=some y) :∃r,r<i/\nd C r=y/\0<y.c/\y.c=c/\fr C r c=none:=by
 unfold fr at h;obtain⟨h1,r,hr,h2,h3⟩:=List.find?_eq_some_iff_getElem.mp h;have h1:0<y.c/\y.c=c:=of_decide_eq_true h1;have hr':r<i/\r<C.length:=by rw[List.length_take]at hr;omega
 rw[List.getElem_take]at h2;refine⟨r,hr'.1,by rw[ct hr'.2];exact h2,h1.1,h1.2,?_⟩;refine(fO (by omega)).mpr fun j hj hm=>?_;have:=h3 j hj;rw[List.getElem_take,<- ct (by omega)]at this;simp[mt]at this;rcases this with h|h
 ·have:=hm.1;omega
 ·exact h hm.2
theorem Cj {C:List Nd}{i r:Nat}{c:Int}(hi:i<=C.length)(hr:r<i)(hp:0< (nd C r).c)(hc: (nd C r).c=c)(hn:fr C r c=none) :fr C i c=some (nd C r) :=by
 unfold fr;refine List.find?_eq_some_iff_getElem.mpr ⟨decide_eq_true ⟨hp,hc⟩,r,by rw[List.length_take];omega,by rw[List.getElem_take,ct (by omega)],fun j hj=>?_⟩;have:= (fO (by omega)).mp hn j hj;rw[List.getElem_take,<- ct (by omega)];simp only[mt,Bool.not_eq_true',decide_eq_false_iff_not];exact this
theorem ue {C:List Nd}{i:Nat}(hi:i<C.length)(c:Int) :fr C (i+1) c= (fr C i c).or (if 0< (nd C i).c/\ (nd C i).c=c then some (nd C i)else none) :=by
 unfold fr;rw[List.take_add_one,List.getElem?_eq_getElem hi,List.find?_append,<- ct hi]
 congr 1
 by_cases h:0< (nd C i).c/\ (nd C i).c=c
 ·rw[if_pos h];have h1:mt c (nd C i) =true:=decide_eq_true h;simp[h1]
 ·rw[if_neg h];have h1:mt c (nd C i) =false:=decide_eq_false h;simp[h1]
structure Can (C:List Nd) :Prop where
 v:wj C
 s:pj C
 f:∀x∈C,num (cs C) x.c=x.c
theorem lS {l:List Nd}(h:wj l) :Can (canon l) :=by
 refine⟨uY h,kG l,fun x hx=>?_⟩
 have e: (canon l).map (ka (canon l)) =canon l:=by
  have:=qA l;unfold canon at this⊢;rw[yT (by have:=kG l;unfold canon at this;exact this)]at this;exact this
 obtain⟨i,hi,rfl⟩:=List.getElem_of_mem hx;have h2: ((canon l).map (ka (canon l)))[i]? = (canon l)[i]? :=by rw[e]
 rw[List.getElem?_map,List.getElem?_eq_getElem hi]at h2;have h3:=Option.some.inj h2;exact congrArg Nd.c h3
theorem Can.lt {C:List Nd}(h:Can C){i j:Nat}(hij:i<j)(hj:j<C.length) :aR (key (nd C i)) (key (nd C j)) = -1:=by
 have h1:=List.pairwise_iff_getElem.mp h.s i j (by omega) hj hij;have h2:=List.pairwise_iff_getElem.mp h.v.EW i j (by omega) hj hij;rw[<- ct (show i<C.length by omega),<- ct hj]at h1 h2;rcases fq (key (nd C i)) (key (nd C j))with e|e|e
 ·exact e
 ·exact absurd (bQ ((cmp_eq _ _).mp e)) h2
 ·unfold Le at h1;omega
theorem Can.at_ {C:List Nd}(h:Can C){i j:Nat}(hi:i<C.length)(hj:j<C.length)(e: (nd C i).p= (nd C j).p) :i=j:=by
 rcases Nat.lt_trichotomy i j with l|l|l
 ·have:=h.lt l hj;unfold key at this;rw[e,(cmp_eq _ _).mpr rfl]at this;omega
 ·exact l
 ·have:=h.lt l hi;unfold key at this;rw[e,(cmp_eq _ _).mpr rfl]at this;omega
theorem Can.par {C:List Nd}(h:Can C){i:Nat}(hi:i<C.length) :dt (key (nd C i)) = []\/∃j,j<i/\ (nd C j).k=0/\key (nd C j) =dt (key (nd C i)) :=by
 rcases h.v.par _ (cP hi)with e|⟨y,hy,hk,e⟩
 ·exact .inl e
 obtain⟨j,hj,rfl⟩:=mQ hy;rcases(Ba (key (nd C i))).2 with⟨_,e',_⟩|⟨_,e'⟩
 ·exact .inl e'
 refine .inr ⟨j,?_,hk,e⟩;have h1:aR (key (nd C j)) (key (nd C i)) = -1:=by rw[e'];rw[e];exact tP _ _ _
 rcases Nat.lt_or_ge j i with l|l
 ·exact l
 ·rcases Nat.eq_or_lt_of_le l with l|l
  ·subst l;rw[(cmp_eq _ _).mpr rfl]at h1;omega
  ·have:=h.lt l hj;rw[fe]at this;omega
theorem Dm {x:Nd}(h1:cI x=0) :dn (gj x) =0:=by
 unfold cI at h1
 split at h1
 ·omega
 ·split at h1
  ·rename_i h2;exact absurd h1 h2
  ·rename_i h2;exact Decidable.byContradiction h2
theorem Can.ck {C:List Nd}(h:Can C){i:Nat}(hi:i<C.length) :dn (mb C i).e=0:=by
 have h1:= (h.v.one _ (cP hi));have hck:=Dm h1
 cases e:fr C i (nd C i).c with
 |none=>rw[dz e];exact hck
 |some y=>
  rw[eJ e];obtain⟨r,hr,rfl,hp,hc,_⟩:=lF (Nat.le_of_lt hi) e;have hy:=kW (h.v.one _ (cP (show r<C.length by omega)));have hok:=fw.mp hck;refine fw.mpr ⟨by show(0:Int)<=3;decide,by show(3:Int) <4;decide,hok.path,hok.m0,hok.m1,fun h=>absurd h (by show¬(3:Int) =2;decide),?_,rfl⟩;show oZ 3 (nd C r).p=0;unfold oZ;rw[if_neg (by decide),if_pos rfl];exact hy.2.2.2.2.2
theorem Can.Ec {C:List Nd}(h:Can C){i:Nat}(hi:i<C.length){y:Nd}(e:fr C i (nd C i).c=some y) :∃r,r<i/\nd C r=y/\ (nd C r).k=1/\ (nd C i).k=1/\fr C r (nd C r).c=none/\ (nd C r).m= (nd C i).m/\ (nd C r).d= (nd C i).d/\0< (nd C r).c/\ (nd C r).c= (nd C i).c:=by
 obtain⟨r,hr,rfl,hp,hc,hn⟩:=lF (Nat.le_of_lt hi) e;have o1:=kW (h.v.one _ (cP (show r<C.length by omega)));have o2:=kW (h.v.one _ (cP hi));have k:=h.v.cls _ (cP (show r<C.length by omega)) _ (cP hi) (by omega) hc;refine⟨r,hr,rfl,?_,?_,by rw[hc];exact hn,k.1,k.2,hp,hc⟩
 ·exact Decidable.byContradiction fun hk=>by have:=o1.2.1 hk;omega
 ·exact Decidable.byContradiction fun hk=>by have:=o2.2.1 hk;omega
theorem AO (C:List Nd)(i:Nat) : (mb C i).e.p= (nd C i).p/\ (mb C i).e.m= (nd C i).m:=by
 cases e:fr C i (nd C i).c with
 |none=>rw[dz e];exact⟨rfl,rfl⟩
 |some y=>rw[eJ e];exact⟨rfl,rfl⟩
theorem Can.k3 {C:List Nd}(h:Can C){i:Nat}(hi:i<C.length) : (mb C i).e.k=3↔∃y,fr C i (nd C i).c=some y:=by
 cases e:fr C i (nd C i).c with
 |none=>
  rw[dz e];have:=kW (h.v.one _ (cP hi));constructor
  ·intro h3;have: (nd C i).k=3:=h3;omega
  ·rintro⟨_,h⟩;cases h
 |some y=>rw[eJ e];exact⟨fun _=>⟨y,rfl⟩,fun _=>rfl⟩
end Flt
section
open Go.RowKit
theorem qh {xs ys:List Int}(hx:Bytes xs)(hy:Bytes ys)(h:¬xs=ys) :¬strOfNums xs=strOfNums ys:=fun e=>h (by
 have h1:=ak hx;rw[e,ak hy]at h1;exact h1.symm)
theorem kI {s t:ByteArray}(h:¬s=t) : (s.toList==t.toList) =false:=by
 rw[beq_eq_false_iff_ne]
 exact fun e=>h (by
  apply ByteArray.ext;apply Array.ext';rw[ByteArray.toList_eq,ByteArray.toList_eq]at e;exact e)
theorem xn (a:Option Addr)(n c:Nat)(xs:List Int)(b:Option Addr)(m d:Nat)(ys:List Int)(w:World)(h1:BytesIn w a xs)(l1:xs.length=n)(h2:BytesIn w b ys)(l2:ys.length=m) :
 Calls Tryz.prog 109 #[.slice a n c,.slice b m d] w fun e w'=>e= .returned (.bool (decide (xs=ys)))/\w=w':=by
 have q1: ((convert 25 9 (.slice a n c)).run Tryz.prog w) = .ok (.string (strOfNums xs)) w:=aQ Tryz.underlying25 Tryz.underlying5 Tryz.underlying9 h1 n c l1;have q2: ((convert 25 9 (.slice b m d)).run Tryz.prog w) = .ok (.string (strOfNums ys)) w:=aQ Tryz.underlying25 Tryz.underlying5 Tryz.underlying9 h2 m d l2;by_cases h:xs=ys
 ·subst h;obtain⟨s,hs⟩:=named (strOfNums xs);rw[<- hs.out]at q1 q2;rw[decide_eq_true rfl];go_enter Tryz.func109,Tryz.ntmps109;go_wp2;go_ret;exact⟨rfl,rfl⟩
 ·have hne:=qh h1.bytes h2.bytes h;rw[decide_eq_false h];obtain⟨s,hs⟩:=named (strOfNums xs);obtain⟨t,ht⟩:=named (strOfNums ys);rw[<- hs.out]at q1 hne;rw[<- ht.out]at q2 hne;have hn:=kI hne;go_enter Tryz.func109,Tryz.ntmps109;go_wp2;go_ret;exact⟨rfl,rfl⟩
end
section
open Go.RowKit Go.ChangeShapes Go.Deep
theorem aX.below {k:IntKind}{w w':World}{a:Option Addr}{len cap:Nat}{zs:List Int}(h:aX k w a len cap zs)(hb:Below w.heap.size w w') :aX k w' a len cap zs:=by
 obtain⟨h1,h2,h3,h4,h5⟩:=h;refine⟨h1,h2,h3,h4,h5.imp id ?_⟩;rintro⟨b,off,h6,h7,h8⟩;exact⟨b,off,h6,Nat.lt_of_lt_of_le h7 hb.size,fun i hi=> (hb.cell (p:=⟨b,off+i,none⟩) h7).trans (h8 i hi)⟩
section
variable {H:Type} {enc:TypeId×Value->H} {P:Program} {w:World} {base:Nat} {held:Bool}
theorem ir {e:TypeId}{x:DataW H}{n:Nat}(hn:n∈x.weights P e) :∀l:List (DataW H),x∈l->n∈DataW.weightsAll P e l
 |y::r,h=>by
  simp only[DataW.weightsAll,List.mem_append];rcases List.mem_cons.1 h with rfl|h
  ·exact .inl hn
  ·exact .inr (ir hn r h)
end
end
namespace Tre
open Go.RowKit Go.ChangeShapes Go.Deep
structure aP where
 n:Nd
 a:Option Addr
 cap:Nat
abbrev cg (k:Int)(p:ByteArray)(m:Int)(t:ByteArray)(a:Option Addr)(n cap:Nat)(c:Int) :List Value:= [.int .i64 k,.string p,.int .i64 m,.string t,.slice a n cap,.int .i64 c]
abbrev eY (y:aP) :List Value:=cg y.n.k y.n.p y.n.m y.n.t y.a y.n.d.length y.cap y.n.c
instance:Inhabited aP:=⟨⟨⟨0,⟨#[]⟩,0,⟨#[]⟩,[],0⟩,none,0⟩⟩
def bc (ys:List aP) :List Value:=ys.flatMap eY
theorem jD (y:aP)(ys:List aP) :bc (y::ys) =eY y++bc ys:=by unfold bc;rw[List.flatMap_cons]
theorem mP (xs ys:List aP) :bc (xs++ys) =bc xs++bc ys:=by unfold bc;rw[List.flatMap_append]
theorem dr:∀ys:List aP,(bc ys).length=ys.length*6
 | [] =>rfl
 |y::ys=>by
  rw[jD,List.length_append,dr ys,List.length_cons];simp;omega
theorem gC:∀(ys:List aP) (i:Nat) (y:aP),ys[i]? =some y->∀j v,(eY y)[j]? =some v-> (bc ys)[i*6+j]? =some v
 | [],i,y,h,_,_,_=>by simp at h
 |q::ys,i,y,h,j,v,hv=>by
  rw[jD]
  have hj:j<6:=by
   have:= (List.getElem?_eq_some_iff.mp hv).1
   simpa using this
  cases i with
  |zero=>
   simp at h;subst h;rw[Nat.zero_mul,Nat.zero_add,List.getElem?_append_left (by simpa using hj)];exact hv
  |succ i=>
   rw[List.getElem?_append_right (by simp;omega)];have:=gC ys i y (by simpa using h) j v hv;rw[<- this]
   congr 1
   simp;omega
def bY (w:World)(b off:Nat)(ys:List aP) :Prop:=∀i y,ys[i]? =some y->∀j v,(eY y)[j]? =some v->w.cell? ⟨b,off+i*6+j,none⟩=some v
theorem bY.c {w:World}{b off:Nat}{ys:List aP}(h:bY w b off ys){i:Nat}{y:aP}(hi:ys[i]? =some y) :
 w.cell? ⟨b,off+i*6,none⟩=some (.int .i64 y.n.k)/\w.cell? ⟨b,off+i*6+1,none⟩=some (.string y.n.p)/\w.cell? ⟨b,off+i*6+2,none⟩=some (.int .i64 y.n.m)/\w.cell? ⟨b,off+i*6+3,none⟩=some (.string y.n.t)/\w.cell? ⟨b,off+i*6+4,none⟩=some (.slice y.a y.n.d.length y.cap)/\w.cell? ⟨b,off+i*6+5,none⟩=some (.int .i64 y.n.c) :=
 ⟨h i y hi 0 _ rfl,h i y hi 1 _ rfl,h i y hi 2 _ rfl,h i y hi 3 _ rfl,h i y hi 4 _ rfl,h i y hi 5 _ rfl⟩
theorem bY.block {w w':World}{b off:Nat}{ys:List aP}(h:bY w b off ys)(e:w'.heap[b]? =w.heap[b]?) :bY w' b off ys:=fun i y hi j v hv=>by
 have:=h i y hi j v hv;unfold World.cell? at this⊢;rw[e];exact this
theorem bY.below {w w':World}{b off B:Nat}{ys:List aP}(h:bY w b off ys)(hb:Below B w w')(hB:b<B) :bY w' b off ys:=h.block (hb.block b hB)
def cw (w:World)(a:Option Addr)(ys:List aP) :Prop:=ys= []\/∃b off,a=some ⟨b,off,none⟩/\b<w.heap.size/\bY w b off ys
theorem cw.below {w w':World}{a:Option Addr}{ys:List aP}(h:cw w a ys)(hb:Below w.heap.size w w') :cw w' a ys:=by
 rcases h with h|⟨b,off,h1,h2,h3⟩
 ·exact .inl h
 ·exact .inr ⟨b,off,h1,Nat.lt_of_lt_of_le h2 hb.size,h3.below hb h2⟩
structure lP (w:World) (y:aP) :Prop where
 k: (Lit.int .i64 y.n.k).wf=true
 p:y.n.p.size<=140737488355328
 m: (Lit.int .i64 y.n.m).wf=true
 t:y.n.t.size<=140737488355328
 d:aX .u8 w y.a y.n.d.length y.cap y.n.d
 l:y.n.d.length<=140737488355328
 c: (Lit.int .i64 y.n.c).wf=true
theorem lP.below {w w':World}{y:aP}(h:lP w y)(hb:Below w.heap.size w w') :lP w' y:=⟨h.k,h.p,h.m,h.t,h.d.below hb,h.l,h.c⟩
structure bA (w:World) (a:Option Addr) (len cap:Nat) (ys:List aP) :Prop where
 n:ys.length=len
 c:len<=cap
 m:cap<=maxLen
 r:cw w a ys
 s:∀y∈ys,lP w y
theorem bA.below {w w':World}{a:Option Addr}{len cap:Nat}{ys:List aP}(h:bA w a len cap ys)(hb:Below w.heap.size w w') :bA w' a len cap ys:=⟨h.n,h.c,h.m,h.r.below hb,fun y hy=> (h.s y hy).below hb⟩
theorem bA.get {w:World}{a:Option Addr}{len cap:Nat}{ys:List aP}(h:bA w a len cap ys)(i:Nat)(hi:i<len) :
 ∃b off y,a=some ⟨b,off,none⟩/\b<w.heap.size/\ys[i]? =some y/\lP w y/\bY w b off ys:=by
 have hlt:i<ys.length:=by rw[h.n];exact hi
 have hg:ys[i]? =some ys[i] :=List.getElem?_eq_getElem hlt;rcases h.r with h0|⟨b,off,h1,h2,h3⟩
 ·simp[h0]at hlt
 ·exact⟨b,off,_,h1,h2,hg,h.s _ (List.getElem_mem _),h3⟩
def ax (ys:List aP) :List Nd:=ys.map aP.n
theorem aV (ys:List aP) : (ax ys).length=ys.length:=by unfold ax;rw[List.length_map]
theorem eU {ys:List aP}{i:Nat}{y:aP}(h:ys[i]? =some y) : (ax ys)[i]? =some y.n:=by unfold ax;rw[List.getElem?_map,h];rfl
section
variable {H:Type} {enc:TypeId×Value->H} {P:Program} {w:World} {base:Nat} {held:Bool}
theorem ru {t e q:TypeId}{f0 f1 f2 f3 f4 f5:Field}{a:Option Addr}{len cap:Nat}{d:DataW H}{p:List MemPlace}
 (ht:P.underlying t=some (.slice e))(he:P.underlying e=some (.struct #[f0,f1,f2,f3,f4,f5]))(h0:P.underlying f0.type=some (.int .i64))(h1:P.underlying f1.type=some .string)(h2:P.underlying f2.type=some (.int .i64))(h3:P.underlying f3.type=some .string)(h4:P.underlying f4.type=some (.slice q))(hq:P.underlying q=some (.int .u8))(h5:P.underlying f5.type=some (.int .i64))
 (hs: (P.cellsOf e,f0.offset,P.cellsOf f0.type,f1.offset,P.cellsOf f1.type,f2.offset,P.cellsOf f2.type,f3.offset,P.cellsOf f3.type,f4.offset,P.cellsOf f4.type,f5.offset,P.cellsOf f5.type) = (6,0,1,1,1,2,1,3,1,4,1,5,1))(hsq:P.cellsOf q=1)(hbq:P.bytesOf q=1)
 (h:DataW.Trod enc P w base (fun _=>true) held t (.slice a len cap) d p)(hw:∀n∈d.weights P t,n<=reachBytes) :∃ys,bA w a len cap ys:=by
 simp only[Prod.mk.injEq]at hs;obtain⟨s,o0,z0,o1,z1,o2,z2,o3,z3,o4,z4,o5,z5⟩:=hs;obtain⟨fuel,hf⟩:=h;rcases open_slice ht hf with⟨hcs,_⟩|⟨x,len',cap',m,n,D,Pl,hcs,_,hl,hm,hmm,hd,hx⟩
 ·simp[Value.cells]at hcs;obtain⟨rfl,rfl,rfl⟩:=hcs;exact⟨[],rfl,aj,Nat.zero_le _,.inl rfl,fun _ h=>by cases h⟩
 ·simp[Value.cells]at hcs;obtain⟨rfl,rfl,rfl⟩:=hcs;simp only[if_true]at hmm;simp only[Prod.mk.injEq]at hd;obtain⟨rfl,_⟩:=hd;have hreach:=reachBytes_lt
  have each:∀i,i<m->∃y:aP,(∀j v,(eY y)[j]? =some v->w.cell? (x.add (i*6+j)) =some v)/\ (i<len->lP w y) :=by
   intro i hi;obtain⟨cs',g1,g2⟩:=hx i hi;rw[s]at g1;obtain⟨_,hlen,hcell⟩:=World.cells?_some g1;obtain⟨xs,k,_,hxe,_,hxl,hfd⟩:=DataW.trod_struct he g2
   match cs',hlen with
   | [v0,v1,v2,v3,v4,v5],_=>
   match xs,hxl with
   | [y0,y1,y2,y3,y4,y5],_=>
   have u0:=hfd 0 f0 rfl;have u1:=hfd 1 f1 rfl;have u2:=hfd 2 f2 rfl;have u3:=hfd 3 f3 rfl;have u4:=hfd 4 f4 rfl;have u5:=hfd 5 f5 rfl;rw[o0,z0]at u0;rw[o1,z1]at u1;rw[o2,z2]at u2;rw[o3,z3]at u3;rw[o4,z4]at u4;rw[o5,z5]at u5;simp at u0 u1 u2 u3 u4 u5;obtain⟨k0,e0,x0,w0⟩:=DataW.trod_int h0 u0;obtain⟨k1,e1,x1,_⟩:=DataW.trod_string h1 u1;obtain⟨k2,e2,x2,w2⟩:=DataW.trod_int h2 u2;obtain⟨k3,e3,x3,_⟩:=DataW.trod_string h3 u3;obtain⟨k5,e5,x5,w5⟩:=DataW.trod_int h5 u5;simp only[List.cons.injEq,and_true]at e0 e1 e2 e3 e5;subst e0;subst e1;subst e2;subst e3;subst e5
   have c:∀j (h:j<6),w.cell? (x.add (i*6+j)) = [Value.int .i64 k0,.string k1,.int .i64 k2,.string k3,v4,.int .i64 k5][j]? :=fun j hj=>by
    rw[<- add_add];exact hcell j hj
   simp only[Prod.mk.injEq]at hxe
   have hmem:i<len->∀z,z∈(D i).weights P e->z<=reachBytes:=fun hil z hz=>hw z (by
    simp only[DataW.weights,ht,List.mem_cons,List.mem_append];exact .inr (.inl (ir (x:=D i) hz _ (List.mem_map.2 ⟨i,by simpa using hil,rfl⟩))))
   have hD:D i= .agg [.lit (.int .i64 k0),.lit (.string k1.data.toList),.lit (.int .i64 k2),.lit (.string k3.data.toList),y4.1,.lit (.int .i64 k5)] :=by
    rw[hxe.1,x0,x1,x2,x3,x5];rfl
   rcases open_ints h4 hq hsq u4 with⟨e4,x4⟩|⟨a4,l4,c4,zs,e4,_,hl4,hm4,hz4,x4,hcl,hwz⟩
   ·simp only[List.cons.injEq,and_true]at e4;subst e4;refine⟨⟨⟨k0,k1,k2,k3,[],k5⟩,none,0⟩,fun j v hv=>?_,fun hil=>?_⟩
    ·rw[c j (by simpa using (List.getElem?_eq_some_iff.mp hv).1)];exact hv
    ·have b1:=hmem hil k1.data.toList.length (by rw[hD];simp[DataW.weights,DataW.weightsEach,he]);have b3:=hmem hil k3.data.toList.length (by rw[hD];simp[DataW.weights,DataW.weightsEach,he]);rw[<- Lib.size_eq]at b1 b3;exact⟨w0,by show k1.size<=_;omega,w2,by show k3.size<=_;omega,aX.nil,Nat.zero_le _,w5⟩
   ·simp only[List.cons.injEq,and_true]at e4;subst e4;have hzl:zs.length=c4:=by simpa using hz4
    have htl: (zs.take l4).length=l4:=by rw[List.length_take];omega
    refine⟨⟨⟨k0,k1,k2,k3,zs.take l4,k5⟩,some a4,c4⟩,fun j v hv=>?_,fun hil=>?_⟩
    ·rw[c j (by simpa using (List.getElem?_eq_some_iff.mp hv).1),<- hv];show _= (cg k0 k1 k2 k3 (some a4) (zs.take l4).length c4 k5)[j]?;rw[htl]
    ·have b1:=hmem hil k1.data.toList.length (by rw[hD];simp[DataW.weights,DataW.weightsEach,he]);have b3:=hmem hil k3.data.toList.length (by rw[hD];simp[DataW.weights,DataW.weightsEach,he]);have b4:=hmem hil (((lits (H:=H) .u8 (zs.take l4)).length+ (lits (H:=H) .u8 (zs.drop l4)).length) *P.bytesOf q) (by rw[hD,x4];simp[DataW.weights,DataW.weightsEach,he,h4]);rw[<- Lib.size_eq]at b1 b3;rw[hbq]at b4;unfold lits at b4;rw[List.length_map,List.length_map]at b4;exact⟨w0,by show k1.size<=_;omega,w2,by show k3.size<=_;omega,by show aX _ _ _ (zs.take l4).length _ _;rw[htl];exact aX.mk' hl4 hm4 hzl hcl hwz,by show(zs.take l4).length<=_;omega,w5⟩
  obtain⟨A,hA⟩:=choose_lt each;refine⟨(List.range len).map A,by simp,hl,hm,?_,fun y hy=>?_⟩
  ·rcases Nat.eq_zero_or_pos len with h0'|h0'
   ·subst h0';exact .inl rfl
   ·have hc0:= (hA 0 (by omega)).1 0 _ rfl;obtain⟨b,off,spot⟩:=x;have hspot:spot=none:=by simpa [Addr.add]using World.cell?_spot hc0
    subst hspot;refine .inr ⟨b,off,rfl,?_,fun i y hy j v hv=>?_⟩
    ·exact World.block_lt_of_cell? w (⟨b,off,none⟩:Addr) (by simpa [Go.WideShapes.add_plain]using hc0)
    ·rw[List.getElem?_map]at hy
     have hi:i<len:=by
      rcases Nat.lt_or_ge i len with h|h
      ·exact h
      ·rw[List.getElem?_eq_none (by simpa using h)]at hy;cases hy
     rw[List.getElem?_range hi]at hy;obtain rfl:=Option.some.inj hy;have:= (hA i (by omega)).1 j v hv;rw[Go.WideShapes.add_plain]at this;rw[Nat.add_assoc];exact this
  ·obtain⟨r,hr',rfl⟩:=List.mem_map.1 hy;have hlt:r<len:=by simpa using hr'
   exact(hA r (by omega)).2 hlt
end
end Tre
section
open Go.RowKit
def fV (P:Program)(T:TypeId)(n:Nat) :Prop:= (∃fs,P.underlying T=some (.struct fs))/\ (P.info? T).map (·.size) =some n
section
variable {P:Program} {w:World} {ops:Array Oper} {rest:List Oper} {o:Oper} {a:Act} {Q:Exit->Act->World->Prop}
theorem aA (hgd:o.guard=none)(T:TypeId)(n:Nat)(hT:fV P T n)(x:Operand)(ho:o.op= .load T x)(g:Nat)(hx:a.eval x= .pointer (some ⟨g,0,none⟩))
 (T':TypeId)(vs:List Value)(hg:an w g T' vs)(hl:vs.length=n)(K:wpList P ops Q rest (a.put o.dst (.agg vs.toArray)) w) :wpList P ops Q (o::rest) a w:=by
 obtain⟨⟨fs,h1⟩,h2⟩:=hT;exact wpList_load_row hgd T x ho g hx T' vs.toArray (0,0) (.struct fs) hg h1 rfl (by rw[h2];simp[hl]) K
theorem fl {T:TypeId}{n:Nat}(hT:fV P T n)(g:Nat)(T':TypeId)(vs:List Value)(hg:an w g T' vs)(hl:vs.length=n) : (loadVar T ⟨g,0,none⟩).run P w= .ok (.agg vs.toArray) w:=by
 obtain⟨⟨fs,h1⟩,h2⟩:=hT;exact run_loadVar_row w g T' T vs.toArray (0,0) (.struct fs) hg h1 rfl (by rw[h2];simp[hl])
theorem bU {fn:Func}{p q:Tmp}{T:TypeId}{n:Nat}(h:fn.results= #[.cell p T,.tmp q])(hT:fV P T n)(tmps:Array Value)(g:Nat)(hp:tmps.getD p undef= .pointer (some ⟨g,0,none⟩))
 (T':TypeId)(vs:List Value)(hg:an w g T' vs)(hl:vs.length=n) : (results fn tmps).run P w= .ok (.tuple #[.agg vs.toArray,tmps.getD q undef]) w:=by
 have hp':tmps[p]?.getD undef= .pointer (some ⟨g,0,none⟩) :=by simpa using hp
 simp[results,h,hp',asAddr,fl hT g T' vs hg hl]
theorem eQ {fn:Func}{p:Tmp}{T:TypeId}{n:Nat}(h:fn.results= #[.cell p T])(hT:fV P T n)(tmps:Array Value)(g:Nat)(hp:tmps.getD p undef= .pointer (some ⟨g,0,none⟩))
 (T':TypeId)(vs:List Value)(hg:an w g T' vs)(hl:vs.length=n) : (results fn tmps).run P w= .ok (.agg vs.toArray) w:=by
 have hp':tmps[p]?.getD undef= .pointer (some ⟨g,0,none⟩) :=by simpa using hp
 simp[results,h,hp',asAddr,fl hT g T' vs hg hl]
end
structure dU (w w':World) (g:Nat) :Prop where
 below:∀{B:Nat},B<=g->Below B w w'
 other:∀{k:Nat},k≠g->w'.heap[k]? =w.heap[k]?
 size:w'.heap.size=w.heap.size
theorem an.aK {w w':World}{g k:Nat}{T:TypeId}{vs:List Value}(h:an w k T vs)(t:dU w w' g)(hk:k≠g) :an w' k T vs:= (t.other hk).trans h
theorem aH {w w':World}{base n size g:Nat}{e:TypeId}{v:Value}{xs:List Value}(h:w.ownsRow base e size v n xs)(t:dU w w' g)(hb:g<base) :w'.ownsRow base e size v n xs:=by
 obtain⟨h1,h2⟩:=h;refine⟨h1,?_⟩;rcases h2 with h2|⟨g',cap',cur,hv,hb',hh,r⟩
 ·exact Or.inl h2
 ·exact Or.inr ⟨g',cap',cur,hv,hb',by rw[t.other (by omega)];exact hh,r⟩
section
variable {P:Program} {w:World} {ops:Array Oper} {rest:List Oper} {o:Oper} {a:Act} {Q:Exit->Act->World->Prop}
theorem al (hgd:o.guard=none)(T:TypeId)(x y:Operand)(ho:o.op= .store T x y)(g i:Nat)(hx:a.eval x= .pointer (some ⟨g,i,none⟩))
 (v:Value)(hy:a.eval y=v)(h1:v.oneCell'=true)(hs: (P.info? T).map (·.size) =some 1)(T':TypeId)(vs:List Value)(hg:an w g T' vs)(hi:i<vs.length)
 (K:∀w',an w' g T' (vs.set i v)->dU w w' g->wpList P ops Q rest (a.put o.dst undef) w') :wpList P ops Q (o::rest) a w:=by
 refine wpList_plain hgd fun K' hK=>?_;have hc:w.cell? ⟨g,i,none⟩=some vs[i] :=hg.get i (List.getElem?_eq_getElem hi);have hf:=hg.frozen i;have hv:v.cells= #[v] :=by cases v<;>first|rfl| (simp[Value.oneCell']at h1)
 cases hq:P.info? T with
 |none=>simp[hq]at hs
 |some j=>
  have hj:j.size=1:=by simpa [hq]using hs
  have ha: (⟨g,i,none⟩:Addr).add 0=⟨g,i,none⟩:=cO g i 0
  have hrun: (storeVar T ⟨g,i,none⟩ v).run P w= .ok () (w.setCell ⟨g,i,none⟩ v) :=by
   simp[storeVar,sizeOf,typeInfo,hq,hj,hv,storeCells,run_store P w _ v _ h1,ha,hc,hf]
  unfold Oper.wp execOp;simp only[ho,hx,hy,Instr.storeAt,Instr.sureAddr,Sem.run_bind,Sem.run_pure,Result.andThen_ok,hrun];exact hK _ _ (K _ (hg.set i v) ⟨fun hB=>au.setCell hB v,fun hk=>Below.heap_setCell _ _ _ _ hk,by simp[World.setCell]⟩)
end
end
namespace Ust
open Oct Cst gR
abbrev bX:List Go.Value:=bu 0 {data:= #[]} {data:= #[]} {data:= #[]} 0 0
end Ust
namespace Ust
open Go.RowKit
theorem wM {s t:ByteArray}(h:¬s=t) : (s.toList==t.toList) =false:=by
 rw[beq_eq_false_iff_ne]
 exact fun e=>h (by
  apply ByteArray.ext;apply Array.ext';rw[ByteArray.toList_eq,ByteArray.toList_eq]at e;exact e)
end Ust
namespace Pxr
open Go.RowKit
theorem nU {H:Type}{enc:TypeId×Value->H}{P:Program}{w:World}{base:Nat}{sp:Nat->Bool}{held:Bool}{fuel:Nat}{t e:TypeId}{n:Nat}{cs:List Value}{zs:List (List UInt8)}{p:List MemPlace}
 (ht:P.underlying t=some (.array n e))(he:P.underlying e=some .string)(hce:P.cellsOf e=1)(hct:P.cellsOf t=n)
 (h:DataW.trod enc P w base sp held fuel t cs=some (.agg (zs.map fun z=> .lit (.string z)),p)) :cs=zs.map fun z=>Value.string ⟨z.toArray⟩:=by
 cases fuel with
 |zero=>simp[DataW.trod]at h
 |succ fuel=>
  simp only[DataW.trod,ht,hce,hct,Nat.mul_one]at h
  split at h
  ·rename_i hl;obtain⟨xs,hm,hx⟩:=Option.map_eq_some_iff.1 h
   have hxs:xs.map (·.1) =zs.map fun z=> (DataW.lit (.string z) :DataW H) :=by
    have:=congrArg Prod.fst hx
    simpa using this
   have hxl:xs.length=n:=by simpa using Lib.mapM_length hm
   have hzl:zs.length=n:=by
    have:=congrArg List.length hxs;simp at this;omega
   apply List.ext_getElem?;intro i;by_cases hi:i<n
   ·obtain⟨b,hb,hf⟩:=Lib.mapM_at hm i i (by simp[hi]);obtain⟨z,hc,rfl,_⟩:=DataW.trod_string he hf
    have h1:cs[i]? =some (.string z) :=by
     have:=congrArg (·[0]?) hc
     simpa [List.getElem?_take,List.getElem?_drop]using this
    have h2: (xs.map (·.1))[i]? =some (DataW.lit (.string z.data.toList) :DataW H) :=by simp[hb]
    rw[hxs]at h2;simp only[List.getElem?_map,Option.map_eq_some_iff,DataW.lit.injEq,Lit.string.injEq]at h2;obtain⟨z',hz',e⟩:=h2;subst e;simp[h1,hz']
   ·rw[List.getElem?_eq_none (by omega),List.getElem?_eq_none (by simp;omega)]
  ·cases h
structure gS (w:World) :Prop where
 BJ:Lib.TabIs Tryz.prog w "internal/strconv.uint64pow10" .u64 Lib.pow10Tab
 k0:w.cell? ⟨2,0,none⟩=some (.string aM)
 k1:w.cell? ⟨2,1,none⟩=some (.string aG)
 k2:w.cell? ⟨2,2,none⟩=some (.string aL)
theorem tH {w:World}{b o:Nat}{v:Value}(h:w.cell? ⟨b,o,none⟩=some v) :b<w.heap.size:=by
 rcases Nat.lt_or_ge b w.heap.size with h'|h'
 ·exact h'
 ·rw[World.cell?]at h;simp[Array.getElem?_eq_none h']at h
theorem zj {w:World}(h:Lib.TabIs Tryz.prog w "internal/strconv.uint64pow10" .u64 Lib.pow10Tab) :3<w.heap.size:=by
 unfold Lib.TabIs World.var? at h;rw[show Tryz.prog.globalNamed "internal/strconv.uint64pow10"=some 3 by kernel_rfl]at h;rcases Nat.lt_or_ge 3 w.heap.size with h'|h'
 ·exact h'
 ·simp[Array.getElem?_eq_none h']at h
theorem gS.below {w w':World}{B:Nat}(h:gS w)(hb:Below B w w')(hB:w.heap.size<=B) :gS w':=by
 have l0:=tH h.k0;have lt:=zj h.BJ;have l1:2<B:=Nat.lt_of_lt_of_le l0 hB;refine⟨?_,(hb.cell (p:=⟨2,0,none⟩) l1).trans h.k0,(hb.cell (p:=⟨2,1,none⟩) l1).trans h.k1,(hb.cell (p:=⟨2,2,none⟩) l1).trans h.k2⟩;have ht:=h.BJ;unfold Lib.TabIs World.var? at ht⊢;rw[show Tryz.prog.globalNamed "internal/strconv.uint64pow10"=some 3 by kernel_rfl]at ht⊢;rw[<- ht];simp only[Option.bind_some];rw[hb.block 3 (by omega)]
theorem gS.go {w w':World}(h:gS w)(hb:Below w.heap.size w w') :gS w':=h.below hb aj
end Pxr
end Go.Proofs.YtcjagakckffkiaaGreatDoor
