import Derived.Test.YtcjagakckffkiaaGreatDoorS18
set_option maxHeartbeats 16000000
set_option maxRecDepth 100000
namespace Go.Proofs.YtcjagakckffkiaaGreatDoor
namespace Ust
open Oct Cst gR
def xV (j:Nat) :Nat:= [0,100,108,116,124,136,156,157,257,263,329,337,345].getD j 0
def BU (j:Nat) :Nat:= [100,8,8,8,12,12,1,100,6,2,8,8,155].getD j 0
section
variable (T:Int) (nm pf lk:ByteArray) (md sz:Int)
def BR (j:Nat) :List Int:=
 [bF (ad nm) 100,cL 7 md,cL 7 0,cL 7 0,cL 11 sz,cL 11 0,[T],bF (ad lk) 100,[117,115,116,97,114,0],[48,48],cL 7 0,cL 7 0,bF (ad pf) 155].getD j []
def cont:Nat->List Int
 |0=>ao 512
 |j+1=>lay (cont j) (xV j) (BR T nm pf lk md sz j)
end
theorem iE (m n:Nat) :ao (m+n) =ao m++ao n:=List.replicate_append_replicate.symm
theorem cF (A V:List Int)(g r:Nat){o m:Nat}(ho:o=A.length+g)(hm:m=g+ (V.length+r)) :lay (A++ao m) o V= (A++ (ao g++V)) ++ao r:=by
 subst ho;subst hm;unfold lay;rw[iE g,iE V.length,<- List.append_assoc A];have hl: (A++ao g).length=A.length+g:=by simp[aB]
 rw[show A.length+g= (A++ao g).length from hl.symm,List.take_left,<- List.drop_drop,List.drop_left];rw[List.drop_left' (aB V.length)];simp[List.append_assoc]
section
variable {T:Int} {nm pf lk:ByteArray} {md sz:Int}
theorem lr (h:iN T nm pf lk md sz=0){j:Nat}(hj:j<13) : (BR T nm pf lk md sz j).length=BU j:=by
 obtain⟨_,h2,h3,h4,_⟩:=cD.1 h;have l1:=bg _ _ (cX (k:=100) h2);have l2:=bg _ _ (cX (k:=100) h3);have l3:=bg _ _ (cX (k:=155) h4);have f7:=aU 7;have f11:=aU 11
 match j,hj with
 |0,_=>exact l1
 |1,_=>exact f7 _
 |2,_=>exact f7 _
 |3,_=>exact f7 _
 |4,_=>exact f11 _
 |5,_=>exact f11 _
 |6,_=>rfl
 |7,_=>exact l2
 |8,_=>rfl
 |9,_=>rfl
 |10,_=>exact f7 _
 |11,_=>exact f7 _
 |12,_=>exact l3
theorem uM {j:Nat}(hj:j<13) :xV j+BU j<=500:=by
 match j,hj with
 |0,_=>decide
 |1,_=>decide
 |2,_=>decide
 |3,_=>decide
 |4,_=>decide
 |5,_=>decide
 |6,_=>decide
 |7,_=>decide
 |8,_=>decide
 |9,_=>decide
 |10,_=>decide
 |11,_=>decide
 |12,_=>decide
theorem kR (h:iN T nm pf lk md sz=0) :∀{j:Nat},j<=13-> (cont T nm pf lk md sz j).length=512
 |0,_=>aB 512
 |j+1,hj=>by
  have ih:=kR h (j:=j) (by omega);have hv:=lr h (j:=j) (by omega);have hw:=uM (j:=j) (by omega);unfold cont;rw[iQ _ _ _ (by omega),ih]
theorem vg (h:iN T nm pf lk md sz=0) :cont T nm pf lk md sz 13=gM (ad nm) md sz++ (ao 8++iq T (ad pf) (ad lk)) :=by
 obtain⟨_,h2,h3,h4,_⟩:=cD.1 h;have l1:=bg _ _ (cX (k:=100) h2);have l2:=bg _ _ (cX (k:=100) h3);have l3:=bg _ _ (cX (k:=155) h4);have f7:=aU 7;have f11:=aU 11;have zl:=aB;have e64:ao 64=ao 32++ao 32:=iE 32 32;obtain⟨N,hN⟩:∃N,N=bF (ad nm) 100:=⟨_,rfl⟩;obtain⟨L,hL⟩:∃N,N=bF (ad lk) 100:=⟨_,rfl⟩;obtain⟨Q,hQ⟩:∃N,N=bF (ad pf) 155:=⟨_,rfl⟩;obtain⟨M,hM⟩:∃N,N=cL 7 md:=⟨_,rfl⟩;obtain⟨S,hS⟩:∃N,N=cL 11 sz:=⟨_,rfl⟩;obtain⟨Z,hZ⟩:∃N,N=cL 7 0:=⟨_,rfl⟩;obtain⟨Y,hY⟩:∃N,N=cL 11 0:=⟨_,rfl⟩;have m1:M.length=8:=by rw[hM];exact f7 _
 have m2:S.length=12:=by rw[hS];exact f11 _
 have m3:Z.length=8:=by rw[hZ];exact f7 _
 have m4:Y.length=12:=by rw[hY];exact f11 _
 rw[<- hN]at l1;rw[<- hL]at l2;rw[<- hQ]at l3
 have c0:cont T nm pf lk md sz 1= ([] ++ (ao 0++N)) ++ao 412:=by
  show lay (ao 512) 0 (bF (ad nm) 100) =_;rw[<- hN];exact cF [] N 0 412 rfl (by rw[l1])
 have c1:cont T nm pf lk md sz 2= (N++ (ao 0++M)) ++ao 404:=by
  show lay (cont T nm pf lk md sz 1) 100 (cL 7 md) =_;rw[c0,<- hM];exact cF N M 0 404 (by simp[l1]) (by simp[m1])
 obtain⟨A1,hA1⟩:∃A,A=N++ (ao 0++M) :=⟨_,rfl⟩;have a1:A1.length=108:=by simp[hA1,l1,m1,zl]
 have c2:cont T nm pf lk md sz 3= (A1++ (ao 0++Z)) ++ao 396:=by
  show lay (cont T nm pf lk md sz 2) 108 (cL 7 0) =_;rw[c1,<- hZ,<- hA1];exact cF A1 Z 0 396 (by simp[a1]) (by simp[m3])
 obtain⟨A2,hA2⟩:∃A,A=A1++ (ao 0++Z) :=⟨_,rfl⟩;have a2:A2.length=116:=by simp[hA2,a1,m3,zl]
 have c3:cont T nm pf lk md sz 4= (A2++ (ao 0++Z)) ++ao 388:=by
  show lay (cont T nm pf lk md sz 3) 116 (cL 7 0) =_;rw[c2,<- hZ,<- hA2];exact cF A2 Z 0 388 (by simp[a2]) (by simp[m3])
 obtain⟨A3,hA3⟩:∃A,A=A2++ (ao 0++Z) :=⟨_,rfl⟩;have a3:A3.length=124:=by simp[hA3,a2,m3,zl]
 have c4:cont T nm pf lk md sz 5= (A3++ (ao 0++S)) ++ao 376:=by
  show lay (cont T nm pf lk md sz 4) 124 (cL 11 sz) =_;rw[c3,<- hS,<- hA3];exact cF A3 S 0 376 (by simp[a3]) (by simp[m2])
 obtain⟨A4,hA4⟩:∃A,A=A3++ (ao 0++S) :=⟨_,rfl⟩;have a4:A4.length=136:=by simp[hA4,a3,m2,zl]
 have c5:cont T nm pf lk md sz 6= (A4++ (ao 0++Y)) ++ao 364:=by
  show lay (cont T nm pf lk md sz 5) 136 (cL 11 0) =_;rw[c4,<- hY,<- hA4];exact cF A4 Y 0 364 (by simp[a4]) (by simp[m4])
 obtain⟨A5,hA5⟩:∃A,A=A4++ (ao 0++Y) :=⟨_,rfl⟩;have a5:A5.length=148:=by simp[hA5,a4,m4,zl]
 have c6:cont T nm pf lk md sz 7= (A5++ (ao 8++ [T])) ++ao 355:=by
  show lay (cont T nm pf lk md sz 6) 156 [T] =_;rw[c5,<- hA5];exact cF A5 [T] 8 355 (by simp[a5]) (by simp)
 obtain⟨A6,hA6⟩:∃A,A=A5++ (ao 8++ [T]) :=⟨_,rfl⟩;have a6:A6.length=157:=by simp[hA6,a5,zl]
 have c7:cont T nm pf lk md sz 8= (A6++ (ao 0++L)) ++ao 255:=by
  show lay (cont T nm pf lk md sz 7) 157 (bF (ad lk) 100) =_;rw[c6,<- hL,<- hA6];exact cF A6 L 0 255 (by simp[a6]) (by simp[l2])
 obtain⟨A7,hA7⟩:∃A,A=A6++ (ao 0++L) :=⟨_,rfl⟩;have a7:A7.length=257:=by simp[hA7,a6,l2,zl]
 have c8:cont T nm pf lk md sz 9= (A7++ (ao 0++ [117,115,116,97,114,0])) ++ao 249:=by
  show lay (cont T nm pf lk md sz 8) 257 [117,115,116,97,114,0] =_;rw[c7,<- hA7];exact cF A7 _ 0 249 (by simp[a7]) (by simp)
 obtain⟨A8,hA8⟩:∃A,A=A7++ (ao 0++ [117,115,116,97,114,0]) :=⟨_,rfl⟩;have a8:A8.length=263:=by simp[hA8,a7,zl]
 have c9:cont T nm pf lk md sz 10= (A8++ (ao 0++ [48,48])) ++ao 247:=by
  show lay (cont T nm pf lk md sz 9) 263 [48,48] =_;rw[c8,<- hA8];exact cF A8 _ 0 247 (by simp[a8]) (by simp)
 obtain⟨A9,hA9⟩:∃A,A=A8++ (ao 0++ [48,48]) :=⟨_,rfl⟩;have a9:A9.length=265:=by simp[hA9,a8,zl]
 have c10:cont T nm pf lk md sz 11= (A9++ (ao 64++Z)) ++ao 175:=by
  show lay (cont T nm pf lk md sz 10) 329 (cL 7 0) =_;rw[c9,<- hZ,<- hA9];exact cF A9 Z 64 175 (by simp[a9]) (by simp[m3])
 obtain⟨A10,hA10⟩:∃A,A=A9++ (ao 64++Z) :=⟨_,rfl⟩;have a10:A10.length=337:=by simp[hA10,a9,m3,zl]
 have c11:cont T nm pf lk md sz 12= (A10++ (ao 0++Z)) ++ao 167:=by
  show lay (cont T nm pf lk md sz 11) 337 (cL 7 0) =_;rw[c10,<- hZ,<- hA10];exact cF A10 Z 0 167 (by simp[a10]) (by simp[m3])
 obtain⟨A11,hA11⟩:∃A,A=A10++ (ao 0++Z) :=⟨_,rfl⟩;have a11:A11.length=345:=by simp[hA11,a10,m3,zl]
 have c12:cont T nm pf lk md sz 13= (A11++ (ao 0++Q)) ++ao 12:=by
  show lay (cont T nm pf lk md sz 12) 345 (bF (ad pf) 155) =_;rw[c11,<- hQ,<- hA11];exact cF A11 Q 0 12 (by simp[a11]) (by simp[l3])
 rw[c12,hA11,hA10,hA9,hA8,hA7,hA6,hA5,hA4,hA3,hA2,hA1,e64];unfold gM iq oG;rw[<- hN,<- hL,<- hQ,<- hM,<- hS,<- hZ,<- hY];have z0:ao 0= [] :=rfl;simp only[z0,List.nil_append,List.append_assoc,List.cons_append]
theorem qD (h:iN T nm pf lk md sz=0) :bJ (cont T nm pf lk md sz 13) =cZ T nm pf lk md sz:=by
 obtain⟨_,h2,h3,h4,_⟩:=cD.1 h;have la:=fh (md:=md) (sz:=sz) (cX (k:=100) h2);have hF: (ao 8).length=8:=aB 8
 have e1:cont T nm pf lk md sz 13=lay (iV T nm pf lk md sz) 148 (ao 8) :=by
  rw[vg h];unfold lay;rw[hF];have a1: (iV T nm pf lk md sz).take 148=gM (ad nm) md sz:=fu la
  have a2: (iV T nm pf lk md sz).drop (148+8) =iq T (ad pf) (ad lk) :=by
   unfold iV;rw[bt 148 8 la rfl,bt 8 0 fD rfl,List.drop_zero]
  rw[a1,a2]
 rw[e1,oR _ _ (gG h) hF];rfl
end
end Ust
section
open Go.RowKit
theorem aI {P:Program}{f:FuncId}{fn:Func}(hf:P.funcs[f]? =some fn)(hn: (fn.name== "runtime.NumGoroutine") =false)(hb:fn.body.isNone=false)(args:Array Value)(w:World) :
 (callFunc f args).run P w= .ok (.enter f args) w:=by
 have h1:fn.name≠ "runtime.NumGoroutine":=by simpa using hn
 have h2:¬fn.body=none:=by intro h;simp[h]at hb
 simp[callFunc,hf,h1,h2]
section
variable {P:Program} {w:World} {ops:Array Oper} {rest:List Oper} {o:Oper} {a:Act} {Q:Exit->Act->World->Prop}
theorem fT {T:TypeId}{n:Nat}(hT:fV P T n)(b off:Nat)(vs:List Value)(hl:vs.length=n)(hr:∀j u,vs[j]? =some u->w.cell? ⟨b,off+j,none⟩=some u) :
 (loadVar T ⟨b,off,none⟩).run P w= .ok (.agg vs.toArray) w:=by
 obtain⟨⟨fs,h1⟩,hs⟩:=hT;have hll:=run_loadCells_list (P:=P) w ⟨b,off,none⟩ vs (fun j u hj=>by rw[cO];exact hr j u hj);rw[hl]at hll
 cases hq:P.info? T with
 |none=>simp[hq]at hs
 |some i=>
  have hs:i.size=n:=by simpa [hq]using hs
  have hagg: (isAgg T).run P w= .ok true w:=by
   unfold isAgg;rw[Sem.run_bind,run_underlying h1 w];simp
  simp[loadVar,Sem.run_bind,hagg,sizeOf,typeInfo,hq,hs,hll]
theorem gv (hgd:o.guard=none)(T:TypeId)(n:Nat)(hT:fV P T n)(x:Operand)(ho:o.op= .load T x)(b off:Nat)(hx:a.eval x= .pointer (some ⟨b,off,none⟩))
 (vs:List Value)(hl:vs.length=n)(hr:∀j u,vs[j]? =some u->w.cell? ⟨b,off+j,none⟩=some u)(K:wpList P ops Q rest (a.put o.dst (.agg vs.toArray)) w) :wpList P ops Q (o::rest) a w:=by
 refine wpList_plain hgd fun K' hK=>?_;unfold Oper.wp execOp;simp only[ho,hx,Instr.loadAt,Instr.sureAddr,Sem.run_bind,Sem.run_pure,Result.andThen_ok,fT hT b off vs hl hr];exact hK _ _ K
theorem oh {K:Act->World->Prop}{E:Prop}(hgd:o.guard=none)(d x:Operand)(dT sT:TypeId)(ho:o.op= .call {callee:= .builtin .copy,args:= #[d,x],argTypes:= #[dT,sT]})
 (e:TypeId)(hT:P.underlying dT=some (.slice e))(he: (P.info? e).map (·.size) =some 1)
 (g off n cap:Nat)(hd:a.eval d= .slice (some ⟨g,off,none⟩) n cap)(b:Option Addr)(m c:Nat)(hx:a.eval x= .slice b m c)(ys:List Int)(hy:BytesIn w b ys)(hm:ys.length=m)
 (T:TypeId)(zs:List Int)(hg:br w g T zs)(hfit:off+n<=zs.length)
 (k:∀w',br w' g T (lay zs off (ys.take n))->cC w w' g->K (a.put o.dst (goInt (ys.take n).length)) w') :
 if Region.wanted o (yielded ops a.tmps) =true then Oper.wp P o a w K Q else E:=by
 have hw:Region.wanted o (yielded ops a.tmps) =true:=by simp[Region.wanted,hgd]
 rw[if_pos hw];have hmn: (ys.take n).length=Nat.min m n:=by rw[List.length_take,hm];exact Nat.min_comm _ _
 by_cases h0:Nat.min m n=0
 ·have e0:ys.take n= [] :=List.eq_nil_of_length_eq_zero (hmn.trans h0);have hrun:=run_copy_none (P:=P) w dT sT o.type e (some ⟨g,off,none⟩) b n cap m c hT he h0;unfold Oper.wp;simp[execOp,ho,resolve,invoke,builtin,hd,hx,hrun,Result.andThen];have:=k w (by rw[e0];simpa [lay]using hg) ⟨arr zs,(setRow_self w g (arr zs) T (0,0) hg.1).symm⟩;rw[e0]at this;exact this
 ·rcases hy with hy|⟨b',off',rfl,_,hr⟩
  ·exfalso;apply h0;rw[<- hm,hy];exact Nat.zero_min _
  ·have hrun:=run_copy_row (P:=P) w dT sT o.type e g off n cap ⟨b',off',none⟩ m c (arr zs) T ((ys.take n).map (Value.int .u8)) hT he hg.1 (by rw[List.length_map];exact hmn)
    (fun j v hj=>hr.news j v (by
      rw[List.map_take,List.getElem?_take]at hj
      split at hj
      ·exact hj
      ·cases hj)) (by rw[List.length_map,fX,List.length_take];omega) (eK _ _)
   rw[List.length_map]at hrun;unfold Oper.wp;simp[execOp,ho,resolve,invoke,builtin,hd,hx,hrun,Result.andThen];rw[Oper.upon_value];have hk:=k _ (by have:=iX w g T zs off (ys.take n) hg (Bytes.take hr.2 n);simpa using this) ⟨_,rfl⟩
   simpa using hk
end
end
namespace Ust
open Go.RowKit
open Oct Cst gR
abbrev yK (off wd:Int)(f p:FuncId) :List Value:= [.int .i64 off,.int .i64 wd,.func (.func f) #[] #[],.func (.func p) #[] #[]]
def BJ:List (Nat×Nat×FuncId×FuncId) :=
 [(0,100,154,155),(100,8,156,157),(108,8,158,159),(116,8,158,159),
  (124,12,160,161),(136,12,158,159),(156,1,162,163),(157,100,164,165),
  (257,6,166,159),(263,2,167,159),(329,8,158,159),(337,8,158,159),(345,155,168,169)]
def rowOf (r:Nat×Nat×FuncId×FuncId) :List Value:=yK r.1 r.2.1 r.2.2.1 r.2.2.2
def BM:List Value:=BJ.flatMap rowOf
def Ex (j:Nat) :Nat×Nat×FuncId×FuncId:=BJ.getD j (0,0,0,0)
def qT (j:Nat) :FuncId:= (Ex j).2.2.1
def Er (j:Nat) :FuncId:= (Ex j).2.2.2
theorem BP {j:Nat}(hj:j<13) :∀i u,(yK (xV j) (BU j) (qT j) (Er j))[i]? =some u->BM[j*4+i]? =some u:=by
 intro i u hu
 have hi:i<4:=by
  rcases Nat.lt_or_ge i 4 with h|h
  ·exact h
  ·rw[List.getElem?_eq_none (by simpa using h)]at hu;cases hu
 rw[<- hu]
 match j,hj,i,hi with
 |0,_,0,_|0,_,1,_|0,_,2,_|0,_,3,_=>rfl
 |1,_,0,_|1,_,1,_|1,_,2,_|1,_,3,_=>rfl
 |2,_,0,_|2,_,1,_|2,_,2,_|2,_,3,_=>rfl
 |3,_,0,_|3,_,1,_|3,_,2,_|3,_,3,_=>rfl
 |4,_,0,_|4,_,1,_|4,_,2,_|4,_,3,_=>rfl
 |5,_,0,_|5,_,1,_|5,_,2,_|5,_,3,_=>rfl
 |6,_,0,_|6,_,1,_|6,_,2,_|6,_,3,_=>rfl
 |7,_,0,_|7,_,1,_|7,_,2,_|7,_,3,_=>rfl
 |8,_,0,_|8,_,1,_|8,_,2,_|8,_,3,_=>rfl
 |9,_,0,_|9,_,1,_|9,_,2,_|9,_,3,_=>rfl
 |10,_,0,_|10,_,1,_|10,_,2,_|10,_,3,_=>rfl
 |11,_,0,_|11,_,1,_|11,_,2,_|11,_,3,_=>rfl
 |12,_,0,_|12,_,1,_|12,_,2,_|12,_,3,_=>rfl
theorem vt {j:Nat}(hj:j<13)(args:Array Value)(w:World) : (callFunc (qT j) args).run Tryz.prog w= .ok (.enter (qT j) args) w:=by
 match j,hj with
 |0,_=>exact aI Tryz.func154 (by kernel_rfl) (by kernel_rfl) args w
 |1,_=>exact aI Tryz.func156 (by kernel_rfl) (by kernel_rfl) args w
 |2,_=>exact aI Tryz.func158 (by kernel_rfl) (by kernel_rfl) args w
 |3,_=>exact aI Tryz.func158 (by kernel_rfl) (by kernel_rfl) args w
 |4,_=>exact aI Tryz.func160 (by kernel_rfl) (by kernel_rfl) args w
 |5,_=>exact aI Tryz.func158 (by kernel_rfl) (by kernel_rfl) args w
 |6,_=>exact aI Tryz.func162 (by kernel_rfl) (by kernel_rfl) args w
 |7,_=>exact aI Tryz.func164 (by kernel_rfl) (by kernel_rfl) args w
 |8,_=>exact aI Tryz.func166 (by kernel_rfl) (by kernel_rfl) args w
 |9,_=>exact aI Tryz.func167 (by kernel_rfl) (by kernel_rfl) args w
 |10,_=>exact aI Tryz.func158 (by kernel_rfl) (by kernel_rfl) args w
 |11,_=>exact aI Tryz.func158 (by kernel_rfl) (by kernel_rfl) args w
 |12,_=>exact aI Tryz.func168 (by kernel_rfl) (by kernel_rfl) args w
theorem sB (w:World) :Calls Tryz.prog 108 #[] w fun e w'=>e= .returned (.slice (some ⟨w.heap.size,0,none⟩) 13 13)/\an w' w.heap.size 192 BM/\Below w.heap.size w w':=by
 go_enter Tryz.func108,Tryz.ntmps108;go_wp2;go_ret;exact⟨rfl,heap_alloc_new w _,au.alloc aj _⟩
end Ust
namespace gR
open Go.RowKit
open Oct
theorem xz:iK Tryz.prog 236 5 512:=⟨Tryz.underlying236,by kernel_rfl,Tryz.underlying5,Tryz.kS⟩
theorem xA (zs:List Int)(w:World)(hl:zs.length=512)(hb:Bytes zs) :
 Calls Tryz.prog 203 #[.agg (arr zs)] w fun e w'=>e= .returned (.int .i64 (iY zs))/\Below w.heap.size w w':=by
 have HL:=aa hl;clear hl;have HB:=aa hb;clear hb;have HT:=aa xz;go_enter Tryz.func203,Tryz.ntmps203;go_wp2_with (first| (refine iu rfl 236 _ rfl zs rfl HB.out ?_;intro w1 h1 b1;have H1:=aa h1;clear h1) | (refine fa rfl _ _ 25 9 rfl 5 Tryz.underlying25 HT.out.elem w.heap.size 148 364 364 rfl _ rfl 236 zs H1.out (by decide) (by rw[HL.out];decide) ?_;intro w2 h2 t2;have H2:=aa h2;have T2:=aa t2;clear h2 t2) | (refine cT rfl 236 5 512 HT.out _ rfl w.heap.size 0 rfl (cr zs) H2.out.row (fc HL.out) ?_));have hbl:=kQ HB.out;have BD:=aa (lj hbl);have HN:=aa (fc HL.out);have B2:=aa ((b1).trans (T2.out.below aj));have HZ:=aa hbl;clear hbl b1;go_loop [3,9] (fun n i=>∃j:Nat,j<=512/\i= .int .i64 j/\n= .int .i64 ((cr zs).take j).sum) (fun _ i=>512- (intOf i).toNat)
 case atStart=>exact⟨0,Nat.zero_le _,rfl,rfl⟩
 case round=>
  obtain⟨j,hj,rfl,rfl⟩:=hrel;obtain⟨d0,d1⟩:=BD.out j;by_cases hlt:j<512
  ·have hix:=og (w:=w2) HT.out (cr zs) HN.out j hlt;obtain⟨c,hc⟩:=named ((cr zs).getD j 0);have hcb:=HZ.out.getD j;rw[<- hc.out]at hix hcb;obtain⟨c0,c1⟩:=hcb;obtain⟨S,hS⟩:=named ((cr zs).take j).sum;rw[<- hS.out]at d0 d1⊢
   have HS:Hid (((cr zs).take (j+1)).sum=S+c) :=by
    show _=_;rw[eN (by rw[HN.out];exact hlt),hS.out,hc.out]
   have hlt': (j:Int) <512:=by omega
   go_wp2
   go_round
   case rel=>exact⟨j+1,by omega,by go_num,by rw[HS.out]⟩
   case measure=>simp[intOf];omega
  ·obtain rfl:j=512:=by omega
   go_wp2;go_ret;exact⟨Bn (by rw[List.take_of_length_le (by rw[HN.out];exact aj)];rfl),B2.out⟩
theorem vu (zs:List Int)(w:World)(hl:zs.length=512)(hb:Bytes zs) :
 Calls Tryz.prog 153 #[.agg (arr zs)] w fun e w'=>e= .returned (.agg (arr (bJ zs)))/\Below w.heap.size w w':=by
 have HL:=aa hl;clear hl;have HB:=aa hb;clear hb;have HT:=aa xz;go_enter Tryz.func153,Tryz.ntmps153;go_wp2_with (first| (refine iu rfl 236 _ rfl zs rfl HB.out ?_;intro w1 h1 b1;have H1:=aa h1;clear h1;have B1:=aa b1;clear b1) | (refine eG rfl 236 5 512 HT.out rfl ?_;intro w2 h2 b2;have H2:=aa h2;have B2:=aa b2;clear h2 b2) | (refine cT rfl 236 5 512 HT.out _ rfl w.heap.size 0 rfl zs (H1.out.below B2.out H1.out.lt).row HL.out ?_));refine(xA zs _ HL.out HB.out).mono ?_;rintro e w3 ⟨rfl,b3⟩;have B3:=aa b3;clear b3;obtain⟨n,hn⟩:=named (iY zs);have FN:Hid (0<=n/\n<=mx 6) :=by show _/\_;rw[hn.out];exact oW HB.out HL.out
 rw[<- hn.out];go_wp2_with fail;refine(sH n 7 6 _ (by decide) (by decide) (by decide) FN.out.1 FN.out.2).mono ?_;rintro e w4 ⟨rfl,h4,b4⟩;have H4:=aa h4;clear h4;have B4:=aa b4;clear b4;have G01:Hid (w.heap.size<w1.heap.size) :=H1.out.lt;have G12:Hid (w1.heap.size<w2.heap.size) :=H2.out.lt;have G23:=aa B3.out.size;have G34:Hid (w3.heap.size<w4.heap.size) := (ig H4.out).2;have A0:Hid (br w4 w.heap.size 236 zs) := ((H1.out.below B2.out G01.out).below B3.out (Nat.lt_trans G01.out G12.out)).below B4.out (Nat.lt_of_lt_of_le (Nat.lt_trans G01.out G12.out) G23.out);have A1:Hid (br w4 w1.heap.size 236 (ao 512)) := (H2.out.below B3.out G12.out).below B4.out (Nat.lt_of_lt_of_le G12.out G23.out);have D4:Hid (aO w4 w3.heap.size 0 (cL 6 n)) :=aO.bG H4.out (mj 6 n);have N1:Hid (w1.heap.size≠w.heap.size) :=by have:=G01.out;show _≠_;omega
 have N2:Hid (w3.heap.size≠w.heap.size) :=by have:=G01.out;have:=G12.out;have:=G23.out;show _≠_;omega
 go_wp2_with (first| (refine fa rfl _ _ 25 9 rfl 5 Tryz.underlying25 HT.out.elem w.heap.size 148 364 364 rfl _ rfl 236 zs A0.out (by decide) (by rw[HL.out];decide) ?_;intro w5 h5 t5;have H5:=aa h5;have T5:=aa t5;clear h5 t5) | (refine gO rfl _ _ 25 25 rfl 5 Tryz.underlying25 HT.out.elem w.heap.size 148 364 364 rfl (some ⟨w3.heap.size,0,none⟩) 7 7 rfl (cL 6 n) (.cH (D4.out.bH T5.out N2.out) (by rw[T5.out.size];exact G34.out)) (aU _ _) 236 (cr zs) H5.out (by rw[fc HL.out];decide) ?_;intro w6 h6 t6;have H6:=aa h6;have T6:=aa t6;clear h6 t6) | (refine cT rfl 236 5 512 HT.out _ rfl w.heap.size 0 rfl (bJ zs) (by have:=H6.out;rw[hn.out,List.take_of_length_le (by rw[aU];decide),yN zs HL.out]at this;exact this.row) (dQ HL.out) ?_) | (refine dA rfl 236 5 512 HT.out _ _ rfl w1.heap.size rfl (bJ zs) rfl (fC HB.out) (dQ HL.out) 236 (ao 512) ((A1.out.bH T5.out N1.out).bH T6.out N1.out) (aB _) ?_;intro w7 h7 t7;have H7:=aa h7;have T7:=aa t7;clear h7 t7));have L0:=Nat.le_of_lt G01.out;have L1:=Nat.le_of_lt G12.out
 exact bodyPost_ret (rI Tryz.results153 HT.out _ w1.heap.size rfl _ (bJ zs) H7.out (dQ HL.out)) rfl ⟨rfl,
  B1.out.trans ((B2.out.mono L0).trans ((B3.out.mono (Nat.le_trans L0 L1)).trans ((B4.out.mono (Nat.le_trans (Nat.le_trans L0 L1) G23.out)).trans ((T5.out.below aj).trans ((T6.out.below aj).trans (T7.out.below L0))))))⟩
theorem zW (a:Option Addr)(cap:Nat)(zs:List Int)(w:World)(hl:zs.length=512)(hb:BytesIn w a zs) :
 Calls Tryz.prog 152 #[.slice a 512 cap] w fun e w'=>e= .returned (.tuple #[.agg (arr zs),.int .i64 0])/\Below w.heap.size w w':=by
 obtain⟨b,off,rfl,hlt,hr⟩:∃b off,a=some ⟨b,off,none⟩/\b<w.heap.size/\aO w b off zs:=by
  rcases hb with hb|hb
  ·rw[hb]at hl;cases hl
  ·exact hb
 have HL:=aa hl;clear hl hb;have HR:=aa hr;clear hr;have HLT:=aa hlt;clear hlt;have HT:=aa xz;have ha:=fun w=>run_arrayAt (w:=w) HT.out (some ⟨b,off,none⟩) 512 cap aj;go_enter Tryz.func152,Tryz.ntmps152;go_wp2_with (first| (refine eG rfl 236 5 512 HT.out rfl ?_;intro w1 h1 b1;have H1:=aa h1;have B1:=aa b1;clear h1 b1) | (refine cT rfl 236 5 512 HT.out _ rfl b off rfl zs (HR.out.below B1.out HLT.out) HL.out ?_) | (refine dA rfl 236 5 512 HT.out _ _ rfl w.heap.size rfl zs rfl HR.out.2 HL.out 236 (ao 512) H1.out (aB _) ?_;intro w2 h2 t2;have H2:=aa h2;have T2:=aa t2;clear h2 t2));exact bodyPost_ret (ly Tryz.results152 HT.out _ w.heap.size rfl _ zs H2.out HL.out) rfl ⟨rfl,B1.out.trans (T2.out.below aj)⟩
theorem Bx (a:Option Addr)(cap:Nat)(zs:List Int)(w:World)(hl:zs.length=512)(hb:BytesIn w a zs)(hz:Bytes zs) :
 Calls Tryz.prog 149 #[.slice a 512 cap] w (fun e w'=>∃b:Nat,e= .returned (.tuple #[.slice (some ⟨b,0,none⟩) 512 512,.int .i64 0])/\br w' b 236 (bJ zs)/\w.heap.size<=b/\Below w.heap.size w w') :=by
 have HL:=aa hl;clear hl;have HB:=aa hb;clear hb;have HZ:=aa hz;clear hz;have HT:=aa xz;go_enter Tryz.func149,Tryz.ntmps149;go_wp2_with fail;refine(zW a cap zs _ HL.out HB.out).mono ?_;rintro e w1 ⟨rfl,b1⟩;have B1:=aa b1;clear b1;go_wp2_with (first| (refine eG rfl 236 5 512 HT.out rfl ?_;intro w2 h2 b2;have H2:=aa h2;have B2:=aa b2;clear h2 b2) | (refine cT rfl 236 5 512 HT.out _ rfl w1.heap.size 0 rfl zs H3.out.row HL.out ?_) | (refine dA rfl 236 5 512 HT.out _ _ rfl w1.heap.size rfl zs rfl HZ.out HL.out 236 (ao 512) H2.out (aB _) ?_;intro w3 h3 t3;have H3:=aa h3;have T3:=aa t3;clear h3 t3));refine(vu zs _ HL.out HZ.out).mono ?_;rintro e w4 ⟨rfl,b4⟩;have B4:=aa b4;clear b4
 have B:Hid (Below w.heap.size w w4) :=by
  have B14:Below w1.heap.size w1 w3:=B2.out.trans (T3.out.below aj);exact B1.out.trans ((B14.mono B1.out.size).trans (B4.out.mono (Nat.le_trans B1.out.size B14.size)))
 have H4:Hid (br w4 w1.heap.size 236 zs) :=H3.out.below B4.out H3.out.lt;go_wp2_with (refine dA rfl 236 5 512 HT.out _ _ rfl w1.heap.size rfl (bJ zs) rfl (fC HZ.out) (dQ HL.out) 236 zs H4.out HL.out ?_;intro w5 h5 t5;have H5:=aa h5;have T5:=aa t5;clear h5 t5);go_ret2;exact⟨_,rfl,H5.out,B1.out.size,B.out.trans (T5.out.below B1.out.size)⟩
end gR
end Go.Proofs.YtcjagakckffkiaaGreatDoor
