import Derived.Test.YtcjagakckffkiaaGreatDoorS8
set_option maxHeartbeats 16000000
set_option maxRecDepth 100000
namespace Go.Proofs.YtcjagakckffkiaaGreatDoor
namespace Pxr
open Go.RowKit
theorem yO (k v:ByteArray)(w:World)(V:gS w)(h:lx (k,v)<=1000000) :Calls Tryz.prog 201 #[.agg #[.string k,.string v]] w fun e w'=>e= .returned (.int .i64 (kd (k,v) :Nat))/\Below w.heap.size w w':=by
 obtain⟨R,hR⟩:=named ((kd (k,v) :Nat) :Int);rw[<- hR.out];obtain⟨O,hO⟩:=named (lx (k,v));rw[<- hO.out]at h;have hO':=hO.out;unfold lx at hO';dsimp only at hO';have b1: (k.size:Int)<=1000000:=by omega
 have b2: (v.size:Int)<=1000000:=by omega
 have S:=jS h;have HRR:Hid (R= ((qm O+O:Nat) :Int)) :=by show _=_;rw[hR.out];unfold kd rX;rw[<- hO.out]
 have HO:Hid (3+ (k.size:Int) + (v.size:Int) = (O:Int)) :=by show _=_;omega
 have b0:Hid (Below w.heap.size w (w.alloc (.cells #[.string k,.string v] 202))) := (Below.refl _ w).alloc aj _;have HS:=aa S;have HV:=aa V;have HL:=aa h
 have h8:Hid (Lib.nDigits (8+O)<=8) :=dq 7 _ (by
  have: (10:Nat) ^ (7+1) =100000000:=by decide
  omega)
 clear hR hO hO' h S V;go_enter Tryz.func201,Tryz.ntmps201;go_wp2;go_loopw [4] (fun d wr=>∃D f:Nat,d= .int .i64 D/\1<=D/\D+f=8/\tm f D O=qm O/\Below w.heap.size w wr) (fun d _=>9- (intOf d).toNat)
 case atStart=>exact⟨1,7,rfl,aj,rfl,rfl,b0.out⟩
 case round=>
  obtain⟨D,f,rfl,hD1,hDf,(HZ:Hid _),(HB:Hid _)⟩:=hrel;have d0: (0:Int)<=D:=by omega
  have d1: (D:Int)<=8:=by omega
  have I:=re (D+O) (by have:=HL.out;omega) wr (HV.out.go HB.out);have ei: ((D+O:Nat) :Int) = (D:Int) + (3+ (k.size:Int) + (v.size:Int)) :=by rw[HO.out];omega
  rw[ei]at I;obtain⟨T,hT⟩:=named (strOfNums (cy (D+O)));rw[<- hT.out]at I;have HI:=aa I;have hts:T.size=Lib.nDigits (D+O) :=by rw[hT.out,iB]
  have HT:=aa hts;clear I ei hT;by_cases ht:D<T.size
  ·have m1: (D:Int) <T.size:=by omega
   have d2: (D:Int) +1<=9:=by omega
   have hf:f≠0:=fun e=>by
    have:=h8.out;rw[HT.out]at ht;rw[show D=8 by omega]at ht;omega
   obtain⟨g,rfl⟩:∃g,f=g+1:=⟨f- 1,by omega⟩
   have HG:Hid (tm g (D+1) O=qm O) :=by
    show _=_;rw[<- HZ.out,Dy (by rw[<- HT.out];omega)]
   clear ht hts hf;go_wp2_with fail;refine HI.out.mono ?_;rintro e w1 ⟨rfl,(B3:Hid _)⟩;go_wp2;go_roundw
   case rel=>exact⟨D+1,g,by go_num,by omega,by omega,HG.out,HB.out.trans (B3.out.mono HB.out.size)⟩
   case measure=>simp[intOf];omega
  ·have m1:¬(D:Int) <T.size:=by omega
   have HE:Hid (R= (D:Int) + (3+ (k.size:Int) + (v.size:Int))) :=by
    show _=_;rw[HRR.out,<- HZ.out,zh (by rw[<- HT.out];omega),HO.out];omega
   clear ht hts;go_wp2_with fail;refine HI.out.mono ?_;rintro e w1 ⟨rfl,(B3:Hid _)⟩;go_wp2;go_ret;exact⟨by rw[HE.out];rfl,HB.out.trans (B3.out.mono HB.out.size)⟩
def iL (w:World)(b off:Nat)(rs:List Rec) :Prop:=
 ∀i r,rs[i]? =some r->w.cell? ⟨b,off+i*2,none⟩=some (.string r.1)/\w.cell? ⟨b,off+i*2+1,none⟩=some (.string r.2)
def cW (w:World)(a:Option Addr)(rs:List Rec) :Prop:=rs= []\/∃b off,a=some ⟨b,off,none⟩/\b<w.heap.size/\iL w b off rs
theorem iL.below {w w':World}{B b off:Nat}{rs:List Rec}(h:iL w b off rs)(hb:Below B w w')(hB:b<B) :iL w' b off rs:=fun i r hi=>
 ⟨(hb.cell (p:=⟨b,off+i*2,none⟩) hB).trans (h i r hi).1,(hb.cell (p:=⟨b,off+i*2+1,none⟩) hB).trans (h i r hi).2⟩
theorem cW.below {w w':World}{a:Option Addr}{rs:List Rec}(h:cW w a rs)(hb:Below w.heap.size w w') :cW w' a rs:=by
 rcases h with h|⟨b,off,h1,h2,h3⟩
 ·exact .inl h
 ·exact .inr ⟨b,off,h1,Nat.lt_of_lt_of_le h2 hb.size,h3.below hb h2⟩
theorem cW.get {w:World}{a:Option Addr}{rs:List Rec}(h:cW w a rs)(i:Nat)(r:Rec)(hi:rs[i]? =some r) :
 ∃b off,a=some ⟨b,off,none⟩/\b<w.heap.size/\w.cell? ⟨b,off+i*2,none⟩=some (.string r.1)/\w.cell? ⟨b,off+i*2+1,none⟩=some (.string r.2) :=by
 rcases h with h|⟨b,off,h1,h2,h3⟩
 ·rw[h]at hi;simp at hi
 ·exact⟨b,off,h1,h2,h3 i r hi⟩
theorem cW.take {w:World}{a:Option Addr}{rs:List Rec}(h:cW w a rs)(k:Nat) :cW w a (rs.take k) :=by
 rcases h with h|⟨b,off,h1,h2,h3⟩
 ·rw[h];exact .inl (List.take_nil)
 ·refine .inr ⟨b,off,h1,h2,fun i r hi=>h3 i r ?_⟩;rw[List.getElem?_take]at hi
  split at hi
  ·exact hi
  ·cases hi
theorem oM {k:ByteArray} :il [] k=false:=rfl
theorem uC {rs:List Rec}{q:Rec}{n:Nat}(hn:rs.length=n+1)(h:rs[n]? =some q)(k:ByteArray) :il rs k=jv k q.1:=by
 unfold il;rw[List.getLast?_eq_getElem?,hn,Nat.add_sub_cancel,h]
theorem jE (a:Option Addr)(n cap:Nat)(rs:List Rec)(k v:ByteArray)(w:World)(V:gS w)(hv:v.size<=maxLen)(hn:rs.length=n)(hc:n<=cap)(hm:cap<=maxLen)(hR:cW w a rs) :
 Calls Tryz.prog 199 #[.slice a n cap,.agg #[.string k,.string v]] w fun e w'=>e= .returned (.int .i64 (dV rs (k,v)))/\Below w.heap.size w w':=by
 unfold maxLen at hm;obtain⟨R,hRR⟩:=named (dV rs (k,v));rw[<- hRR.out];have b0:Hid (Below w.heap.size w (w.alloc (.cells #[.string k,.string v] 202))) := (Below.refl _ w).alloc aj _;have hC:=aa fun(w':World) (hb:Below w.heap.size w w') =>eh k v w' (V.go hb) hv;obtain⟨c,hcE⟩:=named (cA (k,v));rw[<- hcE.out]at hC;by_cases h0:c=0
 ·by_cases hn0:n=0
  ·have e:=aa (show R=0 by rw[hRR.out];unfold dV;rw[if_neg (by rw[<- hcE.out,h0];simp),List.length_eq_zero_iff.1 (hn.trans hn0),oM];rfl);have hd:decide ((0:Int) < (n:Int)) =false:=by rw[hn0];decide
   have hd2:decide (0<n) =false:=by rw[hn0];decide
   subst h0;go_enter Tryz.func199,Tryz.ntmps199;go_wp2_with fail;refine(hC.out _ b0.out).mono ?_;rintro e w1 ⟨rfl,(B1:Hid _)⟩;have c0:w1.cell? ⟨w.heap.size,0,none⟩=some (.string k) := (B1.out.cell (p:=⟨w.heap.size,0,none⟩) (by simp)).trans (by rw[World.cell?_alloc_at _ _ _ _ rfl];rfl);go_wp2_with fail;go_quiet (fail);go_wp2;go_ret;exact⟨by rw[e.out];rfl,(b0.out.trans (B1.out.mono (by simp))).trans (aS _ _ _)⟩
  ·obtain⟨m,hnm⟩:∃m,n=m+1:=⟨n- 1,by omega⟩;obtain⟨q,hq⟩:∃q,rs[m]? =some q:=⟨rs[m],List.getElem?_eq_getElem (by omega)⟩;obtain⟨b,off,rfl,hlt,q0,_⟩:=hR.get m q hq;have q0':Hid (∀w',Below w.heap.size w w'->w'.cell? ⟨b,off+m*2,none⟩=some (.string q.1)) :=fun w' hb=> (hb.cell (p:=⟨b,off+m*2,none⟩) hlt).trans q0;have hle:=uC (hn.trans hnm) hq k;have hd:decide ((0:Int) < (n:Int)) =true:=decide_eq_true (by omega);have hd2:decide (0<n) =true:=decide_eq_true (by omega);have m1:IntKind.i64.wrap ((n:Int) - 1) = (m:Int) :=by rw[show(n:Int) - 1=m by omega];exact gw (by omega) (by omega)
   have m2: (m:Int) <n:=by omega
   cases hK:jv k q.1 with
   |true=>
    have e:=aa (show R=12 by rw[hRR.out];unfold dV;rw[if_neg (by rw[<- hcE.out,h0];simp),hle,hK];rfl);have hK': (Op.bytesLess k.toList q.1.toList||k.toList==q.1.toList) =true:=hK;subst h0;go_enter Tryz.func199,Tryz.ntmps199;go_wp2_with fail;refine(hC.out _ b0.out).mono ?_;rintro e w1 ⟨rfl,(B1:Hid _)⟩;have c0:w1.cell? ⟨w.heap.size,0,none⟩=some (.string k) := (B1.out.cell (p:=⟨w.heap.size,0,none⟩) (by simp)).trans (by rw[World.cell?_alloc_at _ _ _ _ rfl];rfl);have c1:=q0'.out w1 (b0.out.trans (B1.out.mono (by simp)));go_wp2_with fail;go_quiet (fail);go_wp2;go_ret;exact⟨by rw[e.out];rfl,(b0.out.trans (B1.out.mono (by simp))).trans (aS _ _ _)⟩
   |false=>
    have e:=aa (show R=0 by rw[hRR.out];unfold dV;rw[if_neg (by rw[<- hcE.out,h0];simp),hle,hK];rfl);have hK': (Op.bytesLess k.toList q.1.toList||k.toList==q.1.toList) =false:=hK;subst h0;go_enter Tryz.func199,Tryz.ntmps199;go_wp2_with fail;refine(hC.out _ b0.out).mono ?_;rintro e w1 ⟨rfl,(B1:Hid _)⟩;have c0:w1.cell? ⟨w.heap.size,0,none⟩=some (.string k) := (B1.out.cell (p:=⟨w.heap.size,0,none⟩) (by simp)).trans (by rw[World.cell?_alloc_at _ _ _ _ rfl];rfl);have c1:=q0'.out w1 (b0.out.trans (B1.out.mono (by simp)));go_wp2_with fail;go_quiet (fail);go_wp2;go_ret;exact⟨by rw[e.out];rfl,(b0.out.trans (B1.out.mono (by simp))).trans (aS _ _ _)⟩
 ·have e:=aa (show R=c by rw[hRR.out];unfold dV;rw[if_pos (by rw[<- hcE.out];exact h0),hcE.out]);have m1: (c !=0) =true:=by simpa using h0
  go_enter Tryz.func199,Tryz.ntmps199;go_wp2_with fail;refine(hC.out _ b0.out).mono ?_;rintro e w1 ⟨rfl,(B1:Hid _)⟩;go_wp2;go_ret;exact⟨by rw[e.out];rfl,b0.out.trans (B1.out.mono (by simp))⟩
def rz:List Value:= [.string {data:= #[]},.string {data:= #[]}]
theorem Ev: (Tryz.prog.info? 202).map (·.zero) =some (some (.agg rz.toArray)) :=by kernel_rfl
theorem Eu:fV Tryz.prog 202 2:=⟨⟨_,Tryz.underlying202⟩,by kernel_rfl⟩
theorem pV (k v:ByteArray) :∀x∈ [Value.string k,Value.string v],x.oneCell'=true:=by simp[Value.oneCell']
theorem get_some {rs:List Rec}{j:Nat}(h:j<rs.length) :∃r,rs[j]? =some r:=⟨rs[j],List.getElem?_eq_getElem h⟩
theorem Es:∃i0,Hid (Tryz.prog.info? 202=some i0/\i0.zero=some (.agg rz.toArray)/\i0.size=2/\i0.bytes=32/\ (Value.agg rz.toArray).cells.size=2) :=by
 have h: (Tryz.prog.info? 202).map (fun i=> (i.zero,i.size,i.bytes)) =some (some (.agg rz.toArray),2,32) :=by kernel_rfl
 cases hq:Tryz.prog.info? 202 with
 |none=>simp[hq]at h
 |some i=>simp[hq]at h;exact⟨i,rfl,h.1,h.2.1,h.2.2,rfl⟩
theorem Et: (Tryz.prog.info? 202).map (fun i=> (i.zero,i.size)) =some (some (.agg rz.toArray),2) :=by kernel_rfl
def aC (rs:List Rec) :List Value:=rs.flatMap fun r=> [Value.string r.1,Value.string r.2]
theorem jM:∀rs:List Rec,(aC rs).length=rs.length*2
 | [] =>rfl
 |r::rs=>by
  have:=jM rs;unfold aC at this⊢;rw[List.flatMap_cons,List.length_append,this,List.length_cons];simp;omega
theorem oc (rs:List Rec)(r:Rec) :aC (rs++ [r]) =aC rs++ [Value.string r.1,Value.string r.2] :=by unfold aC;simp
theorem kZ:∀(rs:List Rec) (i:Nat) (r:Rec),rs[i]? =some r-> (aC rs)[i*2]? =some (.string r.1)/\ (aC rs)[i*2+1]? =some (.string r.2)
 | [],i,r,h=>by simp at h
 |q::rs,i,r,h=>by
  have e:aC (q::rs) =Value.string q.1::Value.string q.2::aC rs:=by unfold aC;rw[List.flatMap_cons];rfl
  rw[e]
  cases i with
  |zero=>simp at h;subst h;exact⟨rfl,rfl⟩
  |succ i=>
   have:=kZ rs i r (by simpa using h);rw[show(i+1) *2=i*2+1+1 by omega]
   simpa using this
theorem cW.bG {w:World}{base n:Nat}{e:TypeId}{v:Value}{rs:List Rec}(h:w.ownsRow base e 2 v n (aC rs)) :
 ∃a c,v= .slice a n c/\n=rs.length/\n<=c/\c<=maxLen/\cW w a rs/\ (∀x,a=some x->base<=x.block/\x.block<w.heap.size) :=by
 have hl:=h.1;rw[jM]at hl;have hn:n=rs.length:=by omega
 rcases h.2 with⟨hv,h0⟩|⟨g,cap,cur,hv,hb,hh,hc,hm,hs,ht⟩
 ·subst h0;exact⟨none,0,hv,hn,aj,Nat.zero_le _,.inl (List.length_eq_zero_iff.1 hn.symm),fun x hx=>by cases hx⟩
 ·have hlt:g<w.heap.size:= (Array.getElem?_eq_some_iff.1 hh).1;refine⟨some ⟨g,0,none⟩,cap,hv,hn,hc,hm,.inr ⟨g,0,rfl,hlt,fun i r hi=>?_⟩,fun x hx=>by cases hx;exact⟨hb,hlt⟩⟩;obtain⟨c0,c1⟩:=kZ rs i r hi;have hir:i<rs.length:= (List.getElem?_eq_some_iff.1 hi).1
  have get:∀j u,j<n*2-> (aC rs)[j]? =some u->w.cell? ⟨g,j,none⟩=some u:=fun j u hj hu=>by
   rw[<- ht,List.getElem?_take,if_pos hj]at hu;rw[World.cell?,hh]
   simpa using hu
  rw[Nat.zero_add];exact⟨get _ _ (by omega) c0,get _ _ (by omega) c1⟩
theorem sR {w:World}{base n size:Nat}{e:TypeId}{v:Value}{xs:List Value}(h:w.ownsRow base e size v n xs) :∀k,v.ownBlock=some k->base<=k:=by
 intro k hk;rcases h.2 with⟨h',_⟩|⟨g',cap',cur,hv,hb',_⟩
 ·rw[h']at hk;cases hk
 ·rw[hv]at hk;obtain rfl:g'=k:=by simpa [Value.ownBlock]using hk
  exact hb'
theorem bB {w w':World}{base B n size:Nat}{e:TypeId}{v:Value}{xs:List Value}(h:w.ownsRow base e size v n xs)(hb:Below B w w')(hB:w.heap.size<=B) :w'.ownsRow base e size v n xs:=by
 obtain⟨h1,h2⟩:=h;refine⟨h1,?_⟩;rcases h2 with h2|⟨g',cap',cur,hv,hb',hh,r⟩
 ·exact Or.inl h2
 ·have hlt:g'<w.heap.size:= (Array.getElem?_eq_some_iff.1 hh).1;exact Or.inr ⟨g',cap',cur,hv,hb',by rw[hb.block g' (by omega)];exact hh,r⟩
section
variable {P:Program} {w:World} {ops:Array Oper} {rest:List Oper} {o:Oper} {a:Act} {Q:Exit->Act->World->Prop}
theorem aD (hgd:o.guard=none)(t e:TypeId)(x:Operand)(ho:o.op= .buildSlice t 1 #[(0,x)])(ht:P.underlying t=some (.slice e))(z:Value)(hI: (P.info? e).map (fun i=> (i.zero,i.size)) =some (some z,2))
 (k v:ByteArray)(hx:a.eval x= .agg #[.string k,.string v])
 (K:∀w',w'.heap[w.heap.size]? =some (.cells #[.string k,.string v] e (0,0))->Below w.heap.size w w'->wpList P ops Q rest (a.put o.dst (.slice (some ⟨w.heap.size,0,none⟩) 1 1)) w') :wpList P ops Q (o::rest) a w:=by
 refine wpList_plain hgd fun K' hK=>?_
 cases hq:P.info? e with
 |none=>simp[hq]at hI
 |some i=>
  simp[hq]at hI
  have hrun: (Instr.buildSlice t 1 #[(0,.agg #[.string k,.string v])]).run P w= .ok (.slice (some ⟨w.heap.size,0,none⟩) 1 1) (w.alloc (.cells #[.string k,.string v] e)) :=by
   simp[Instr.buildSlice,run_underlying ht,sizeOf,typeInfo,zeroValue,hq,hI.1,hI.2,Instr.fill,newRow,Value.cells];rw[show Array.range 2= #[0,1] by decide];simp
  unfold Oper.wp;simp[execOp,ho,hx,hrun,Result.andThen];exact hK _ _ (K _ (heap_alloc_new w _) (au.alloc aj _))
theorem aw (hgd:o.guard=none)(s x:Operand)(t:TypeId)(ho:o.op= .call {callee:= .builtin .append,args:= #[s,x],argTypes:= #[t,t]})
 (base:Nat)(e:TypeId)(i0:TypeInfo)(z:Value)(hT:P.underlying t=some (.slice e))(hI:Hid (P.info? e=some i0/\i0.zero=some z/\i0.size=2/\i0.bytes=32/\z.cells.size=2))
 (v:Value)(n:Nat)(rs:List Rec)(hs:a.eval s=v)(hown:w.ownsRow base e 2 v n (aC rs))
 (b:Nat)(r:Rec)(hx:a.eval x= .slice (some ⟨b,0,none⟩) 1 1)(hb:w.heap[b]? =some (.cells #[.string r.1,.string r.2] e (0,0)))(h47:n<=1000000)(hbase:base<=w.heap.size)
 (K:∀v' w',w'.ownsRow base e 2 v' (n+1) (aC (rs++ [r]))->Below base w w'-> (∀k,k<w.heap.size->some k≠v.ownBlock->w'.heap[k]? =w.heap[k]?)->wpList P ops Q rest (a.put o.dst v') w') :wpList P ops Q (o::rest) a w:=by
 refine wpList_append_own _ hgd s x t ho base e i0 z 2 32 hT hI.out.1 hI.out.2.1 hI.out.2.2.1 hI.out.2.2.2.1 hI.out.2.2.2.2 (by decide) v n _ hs hown ⟨b,0,none⟩ 1 1 [.string r.1,.string r.2] hx rfl ?_ ?_ (by unfold maxLen;omega) (by omega) hbase ?_
 ·intro j u hj;rw[cO,Nat.zero_add,World.cell?,hb]
  match j,hj with
  |0,hj=>simpa using hj
  |1,hj=>simpa using hj
  |j+2,hj=>simp at hj
 ·intro u hu;simp at hu;rcases hu with rfl|rfl<;>rfl
 ·intro v' w' h1 h2 _;exact K v' w' (by rw[oc];exact h1) (au.grown h2 hbase (sR hown)) (fun k hk hr=>h2.block k hk hr)
end
end Pxr
section
open Go.RowKit
section
variable {P:Program} {w:World} {ops:Array Oper} {o:Oper} {a:Act} {Q:Exit->Act->World->Prop} {K:Act->World->Prop} {E:Prop}
theorem fE (hgd:o.guard=none)(T:TypeId)(ho:o.op= .alloc T)(vs:List Value)(hz: (P.info? T).map (·.zero) =some (some (.agg vs.toArray)))
 (k:∀w',an w' w.heap.size T vs->Below w.heap.size w w'->K (a.put o.dst (.pointer (some ⟨w.heap.size,0,none⟩))) w') :
 if Region.wanted o (yielded ops a.tmps) =true then Oper.wp P o a w K Q else E:=by
 have hw:Region.wanted o (yielded ops a.tmps) =true:=by simp[Region.wanted,hgd]
 rw[if_pos hw]
 cases hq:P.info? T with
 |none=>simp[hq]at hz
 |some i=>
  simp[hq]at hz;unfold Oper.wp;simp[execOp,ho,Instr.alloc,zeroValue,typeInfo,hq,hz,newVar,newRow,Result.andThen,Value.cells];exact k _ (heap_alloc_new w _) (au.alloc aj _)
theorem fF (hgd:o.guard=none)(T:TypeId)(x y:Operand)(ho:o.op= .store T x y)(g:Nat)(hx:a.eval x= .pointer (some ⟨g,0,none⟩))
 (vs old:List Value)(hy:a.eval y= .agg vs.toArray)(T':TypeId)(hg:an w g T' old)(hs: (P.info? T).map (·.size) =some vs.length)(hl:old.length=vs.length)(h1:∀v∈vs,v.oneCell'=true)
 (k:∀w',an w' g T' vs->cC w w' g->K (a.put o.dst undef) w') :
 if Region.wanted o (yielded ops a.tmps) =true then Oper.wp P o a w K Q else E:=by
 have hw:Region.wanted o (yielded ops a.tmps) =true:=by simp[Region.wanted,hgd]
 rw[if_pos hw];refine wp_store_row T x y ho g vs.toArray hx hy T' old.toArray hg (by simpa using hs) (by simpa using hl) ?_ ?_
 ·rw[Array.all_eq_true_iff_forall_mem];intro u hu;exact h1 u (by simpa using hu)
 ·exact k _ (setRow_heap w g _ _ T' _ hg) ⟨_,rfl⟩
end
end
section
open Go
theorem ay {P:Program}{md:Region.Mode}{ops:Array Oper}{Q:Exit->Act->World->Prop}{S S2:World->Prop}(hs:∀w,S2 w->S w) :
 ∀{fuel:Nat} {listed:Array Bool} {a:Act} {w:World},wpAnyH P md ops Q S2 fuel listed a w->wpAnyH P md ops Q S fuel listed a w
 |0,_,_,_,h=>h
 |_+1,_,_,_,h=>⟨h.1,fun i hi=>wpOp_mono (fun _ _ h'=>⟨hs _ h'.1,ay hs h'.2⟩) (h.2 i hi)⟩
end
namespace Fit
open Go.RowKit Pxr Pnm
abbrev cB (k:Int)(p:ByteArray)(m:Int)(t:ByteArray)(s:Int) :List Value:= [.int .i64 k,.string p,.int .i64 m,.string t,.int .i64 s]
theorem CS:fV Tryz.prog 68 5:=⟨⟨_,Tryz.underlying68⟩,by kernel_rfl⟩
theorem Av:fV Tryz.prog 130 6:=⟨⟨_,Tryz.underlying130⟩,by kernel_rfl⟩
theorem Aw:fV Tryz.prog 145 6:=⟨⟨_,Tryz.underlying145⟩,by kernel_rfl⟩
theorem bL (T:Int)(a b c:ByteArray)(m z:Int) :∀v∈Ust.bu T a b c m z,v.oneCell'=true:=by simp[Value.oneCell']
theorem fR (k:Int)(p:ByteArray)(m:Int)(t:ByteArray)(s:Int) :∀v∈cB k p m t s,v.oneCell'=true:=by simp[Value.oneCell']
theorem Fe: (Tryz.prog.info? 130).map (·.zero) =some (some (.agg (Ust.bX).toArray)) :=by kernel_rfl
theorem Fg: (Tryz.prog.info? 145).map (·.zero) =some (some (.agg (Ust.bX).toArray)) :=by kernel_rfl
theorem ER: (Tryz.prog.info? 68).map (·.zero) =some (some (.agg (cB 0 emp 0 emp 0).toArray)) :=by kernel_rfl
theorem Ey: (Tryz.prog.info? 9).map (·.size) =some 1:=by kernel_rfl
theorem Bw: (Tryz.prog.info? 2).map (·.size) =some 1:=by kernel_rfl
def jd (T:Int)(nm pf lk:ByteArray)(md sz:Int)(L:List Rec)(E:Int)(w:World)(e:Ending)(w':World) :Prop:=
 ∃b n c,e= .returned (.tuple #[.agg (Ust.bu T nm pf lk md sz).toArray,.slice b n c,.int .i64 E])/\L.length=n/\n<=c/\c<=maxLen/\cW w' b L/\Below w.heap.size w w'
theorem jd.nil {T:Int}{nm pf lk:ByteArray}{md sz:Int}{E:Int}{w w':World}(h:Below w.heap.size w w') :jd T nm pf lk md sz [] E w (.returned (.tuple #[.agg (Ust.bu T nm pf lk md sz).toArray,.slice none 0 0,.int .i64 E])) w':=
 ⟨none,0,0,rfl,rfl,aj,Nat.zero_le _,.inl rfl,h⟩
theorem jd.own {T:Int}{nm pf lk:ByteArray}{md sz:Int}{E:Int}{L:List Rec}{w w':World}{base n:Nat}{e:TypeId}{v:Value}(h:w'.ownsRow base e 2 v n (aC L))(hb:Below w.heap.size w w') :
 jd T nm pf lk md sz L E w (.returned (.tuple #[.agg (Ust.bu T nm pf lk md sz).toArray,v,.int .i64 E])) w':=by
 obtain⟨a,c,rfl,hn,hc,hm,hR,_⟩:=cW.bG h;exact⟨a,n,c,rfl,hn.symm,hc,hm,hR,hb⟩
theorem az {P:Program}{w:World}{fn:Func}{p q r:Tmp}{T:TypeId}{n:Nat}(h:fn.results= #[.cell p T,.tmp q,.tmp r])(hT:fV P T n)(tmps:Array Value)(g:Nat)(hp:tmps.getD p undef= .pointer (some ⟨g,0,none⟩))
 (T':TypeId)(vs:List Value)(hg:an w g T' vs)(hl:vs.length=n) : (results fn tmps).run P w= .ok (.tuple #[.agg vs.toArray,tmps.getD q undef,tmps.getD r undef]) w:=by
 have hp':tmps[p]?.getD undef= .pointer (some ⟨g,0,none⟩) :=by simpa using hp
 simp[results,h,hp',asAddr,fl hT g T' vs hg hl]
end Fit
namespace Tre
open Go.RowKit Go.Proofs.YtcjagakckffkiaaGreatDoor.Fit
theorem zF:fV Tryz.prog 77 6:=⟨⟨_,Tryz.underlying77⟩,by kernel_rfl⟩
theorem dK (k:Int)(p:ByteArray)(m:Int)(t:ByteArray)(a:Option Addr)(n cap:Nat)(c:Int) :∀v∈cg k p m t a n cap c,v.oneCell'=true:=by simp[Value.oneCell']
theorem zH: (Tryz.prog.info? 77).map (·.zero) =some (some (.agg (cg 0 emp 0 emp none 0 0 0).toArray)) :=by kernel_rfl
theorem nf (k:Int)(p:ByteArray)(m:Int)(t:ByteArray)(a:Option Addr)(n cap:Nat)(c:Int)(w:World) :
 Calls Tryz.prog 88 #[.agg (cg k p m t a n cap c).toArray] w fun e w'=>e= .returned (.string p)/\Below w.heap.size w w':=by
 go_enter Tryz.func88,Tryz.ntmps88;go_wp2_with (first| (refine af rfl 77 _ rfl (cg k p m t a n cap c) rfl ?_;rintro w1 g1 (B1:Hid _);have c1:=g1.get 1 rfl));go_ret;exact⟨rfl,B1.out⟩
theorem gU (k:Int)(p:ByteArray)(m:Int)(t:ByteArray)(a:Option Addr)(n cap:Nat)(c:Int)(w:World) :
 Calls Tryz.prog 90 #[.agg (cg k p m t a n cap c).toArray] w fun e w'=>e= .returned (.int .i64 c)/\Below w.heap.size w w':=by
 go_enter Tryz.func90,Tryz.ntmps90;go_wp2_with (first| (refine af rfl 77 _ rfl (cg k p m t a n cap c) rfl ?_;rintro w1 g1 (B1:Hid _);have c1:=g1.get 5 rfl));go_ret;exact⟨rfl,B1.out⟩
theorem jP (x y:aP)(w:World)(hx:lP w x)(hy:lP w y) :
 Calls Tryz.prog 93 #[.agg (eY x).toArray,.agg (eY y).toArray] w fun e w'=>e= .returned (.bool (decide (x.n.m=y.n.m/\x.n.d=y.n.d)))/\Below w.heap.size w w':=by
 have HX:=aa hx.d.bytes;have HY:=aa hy.d.bytes;obtain⟨⟨k,p,m,t,d,c⟩,a,cap⟩:=x;obtain⟨⟨k',p',m',t',d',c'⟩,a',cap'⟩:=y;obtain⟨R,hR⟩:=named (decide (m=m'/\d=d'));have HE:=aa fun(w':World) (h:Below w.heap.size w w') =>xn a d.length cap d a' d'.length cap' d' w' (HX.out.below h) rfl (HY.out.below h) rfl;obtain⟨N,hN⟩:=named d.length;obtain⟨N',hN'⟩:=named d'.length;obtain⟨T,hT⟩:=named (decide (d=d'));show Calls _ _ #[.agg (cg k p m t a d.length cap c).toArray,.agg (cg k' p' m' t' a' d'.length cap' c').toArray] _ _;rw[<- hN.out,<- hN'.out]at HE⊢;rw[<- hT.out]at HE;show Calls _ _ _ _ fun e w'=>e= .returned (.bool (decide (m=m'/\d=d')))/\_;rw[<- hR.out];have HR:Hid (R= (decide (m=m') &&T)) :=by show _=_;rw[hR.out,hT.out,Bool.decide_and]
 clear hx hy HX HY hR hN hN' hT;by_cases h:m=m'
 ·subst h;have e:R=T:=by rw[HR.out,decide_eq_true rfl,Bool.true_and]
  subst e;clear HR;go_enter Tryz.func93,Tryz.ntmps93;go_wp2_with (first| (refine af rfl 77 _ rfl (cg k p m t a N cap c) rfl ?_;intro w1 g1 b1;have G1:=aa g1;have B1:=aa b1;clear g1 b1) | (refine af rfl 77 _ rfl (cg k' p' m t' a' N' cap' c') rfl ?_;intro w2 g2 b2;have c2:= (G1.out.below b2 G1.out.lt).get 2 rfl;have c4:= (G1.out.below b2 G1.out.lt).get 4 rfl;have d2:=g2.get 2 rfl;have d4:=g2.get 4 rfl;have B2:=aa (ar B1.out b2);clear g2 b2));refine(HE.out w2 B2.out).mono ?_;rintro e w3 ⟨rfl,rfl⟩;go_wp2;go_ret;exact⟨rfl,B2.out⟩
 ·have e:R=false:=by rw[HR.out,decide_eq_false h,Bool.false_and]
  have n1: (m==m') =false:=by simpa using h
  subst e;clear HR HE h;go_enter Tryz.func93,Tryz.ntmps93;go_wp2_with (first| (refine af rfl 77 _ rfl (cg k p m t a N cap c) rfl ?_;intro w1 g1 b1;have G1:=aa g1;have B1:=aa b1;clear g1 b1) | (refine af rfl 77 _ rfl (cg k' p' m' t' a' N' cap' c') rfl ?_;intro w2 g2 b2;have c2:= (G1.out.below b2 G1.out.lt).get 2 rfl;have c4:= (G1.out.below b2 G1.out.lt).get 4 rfl;have d2:=g2.get 2 rfl;have d4:=g2.get 4 rfl;have B2:=aa (ar B1.out b2);clear g2 b2));go_ret;exact⟨rfl,B2.out⟩
theorem ns (k:Int)(p:ByteArray)(m:Int)(t:ByteArray)(a:Option Addr)(n cap:Nat)(c:Int)(w:World) :
 Calls Tryz.prog 70 #[.agg (cg k p m t a n cap c).toArray] w fun e w'=>e= .returned (.agg (cB k p m t (if k=1 then(n:Int)else 0)).toArray)/\Below w.heap.size w w':=by
 have EZ:=aa ER;have EO:=aa CS;have S8:=aa Bw;obtain⟨R,hR⟩:=named (if k=1 then(n:Int)else 0);rw[<- hR.out];by_cases h:k=1
 ·subst h;have e:R= (n:Int) :=by rw[hR.out,if_pos rfl]
  subst e;clear hR;go_enter Tryz.func70,Tryz.ntmps70;go_wp2_with (first| (refine af rfl 77 _ rfl (cg 1 p m t a n cap c) rfl ?_;intro w1 g1 b1;have G1:=aa g1;have B1:=aa b1;clear g1 b1) | (have q2:=G2.out;clear q2;refine ag rfl 68 rfl (cB 0 emp 0 emp 0) EZ.out ?_;intro w3 g3 b3;have G3:=aa g3;have J2:=aa (G2.out.below b3 G2.out.lt);have L1:=aa (K1.out.below b3 K1.out.lt);have N3:=aa G2.out.lt;have B3:=aa (ar B2.out b3);clear g3 b3 c0 c1 c2 c3) | (have q1:=G1.out;clear q1;refine ag rfl 68 rfl (cB 0 emp 0 emp 0) EZ.out ?_;intro w2 g2 b2;have G2:=aa g2;have K1:=aa (G1.out.below b2 G1.out.lt);have N2:=aa G1.out.lt;have B2:=aa (ar B1.out b2);have c0:=K1.out.get 0 rfl;have c1:=K1.out.get 1 rfl;have c2:=K1.out.get 2 rfl;have c3:=K1.out.get 3 rfl;clear g2 b2) | (refine ae rfl 68 _ _ rfl w2.heap.size rfl (cB 1 p m t 0) (cB 0 emp 0 emp 0) rfl 68 G3.out EO.out.2 rfl (fR _ _ _ _ _) ?_;intro w4 g4 t4;have G4:=aa g4;have J4:=aa (J2.out.bH t4 (Nat.ne_of_lt N3.out));have L4:=aa (L1.out.bH t4 (Nat.ne_of_lt (Nat.lt_trans N2.out N3.out)));have B4:=aa (B3.out.trans (t4.below B2.out.size));have c0:=L4.out.get 0 rfl;have c4:=L4.out.get 4 rfl;clear g4 t4) | (refine al rfl 2 _ _ rfl w2.heap.size 4 rfl (.int .i64 n) rfl rfl S8.out 68 _ G4.out (by simp) ?_;intro w5 g5 t5;have G5:=aa (show an w5 w2.heap.size 68 (cB 1 p m t n)from g5);have J5:=aa (J4.out.aK t5 (Nat.ne_of_lt N3.out));have B5:=aa (B4.out.trans (t5.below B2.out.size));have d0:=g5.get 0 rfl;have d1:=g5.get 1 rfl;have d2:=g5.get 2 rfl;have d3:=g5.get 3 rfl;have d4:=g5.get 4 rfl;clear g5 t5) | (refine ae rfl 68 _ _ rfl w1.heap.size rfl (cB 1 p m t n) (cB 0 emp 0 emp 0) rfl 68 J5.out EO.out.2 rfl (fR _ _ _ _ _) ?_;intro w6 g6 t6;have G6:=aa g6;have B6:=aa (B5.out.trans (t6.below B1.out.size));clear g6 t6));exact bodyPost_ret (eQ Tryz.results70 EO.out _ w1.heap.size rfl _ _ G6.out rfl) rfl ⟨rfl,B6.out⟩
 ·have e:R=0:=by rw[hR.out,if_neg h]
  subst e;have nk: (k==1) =false:=by simpa using h
  clear hR h S8;go_enter Tryz.func70,Tryz.ntmps70;go_wp2_with (first| (refine af rfl 77 _ rfl (cg k p m t a n cap c) rfl ?_;intro w1 g1 b1;have G1:=aa g1;have B1:=aa b1;clear g1 b1) | (have q2:=G2.out;clear q2;refine ag rfl 68 rfl (cB 0 emp 0 emp 0) EZ.out ?_;intro w3 g3 b3;have G3:=aa g3;have J2:=aa (G2.out.below b3 G2.out.lt);have L1:=aa (K1.out.below b3 K1.out.lt);have N3:=aa G2.out.lt;have B3:=aa (ar B2.out b3);clear g3 b3 c0 c1 c2 c3) | (have q1:=G1.out;clear q1;refine ag rfl 68 rfl (cB 0 emp 0 emp 0) EZ.out ?_;intro w2 g2 b2;have G2:=aa g2;have K1:=aa (G1.out.below b2 G1.out.lt);have N2:=aa G1.out.lt;have B2:=aa (ar B1.out b2);have c0:=K1.out.get 0 rfl;have c1:=K1.out.get 1 rfl;have c2:=K1.out.get 2 rfl;have c3:=K1.out.get 3 rfl;clear g2 b2) | (refine ae rfl 68 _ _ rfl w2.heap.size rfl (cB k p m t 0) (cB 0 emp 0 emp 0) rfl 68 G3.out EO.out.2 rfl (fR _ _ _ _ _) ?_;intro w4 g4 t4;have G4:=aa g4;have J4:=aa (J2.out.bH t4 (Nat.ne_of_lt N3.out));have L4:=aa (L1.out.bH t4 (Nat.ne_of_lt (Nat.lt_trans N2.out N3.out)));have B4:=aa (B3.out.trans (t4.below B2.out.size));have c0:=L4.out.get 0 rfl;have c4:=L4.out.get 4 rfl;have d0:=g4.get 0 rfl;have d1:=g4.get 1 rfl;have d2:=g4.get 2 rfl;have d3:=g4.get 3 rfl;have d4:=g4.get 4 rfl;clear g4 t4) | (refine ae rfl 68 _ _ rfl w1.heap.size rfl (cB k p m t 0) (cB 0 emp 0 emp 0) rfl 68 J4.out EO.out.2 rfl (fR _ _ _ _ _) ?_;intro w6 g6 t6;have G6:=aa g6;have B6:=aa (B4.out.trans (t6.below B1.out.size));clear g6 t6));exact bodyPost_ret (eQ Tryz.results70 EO.out _ w1.heap.size rfl _ _ G6.out rfl) rfl ⟨rfl,B6.out⟩
end Tre
end Go.Proofs.YtcjagakckffkiaaGreatDoor
