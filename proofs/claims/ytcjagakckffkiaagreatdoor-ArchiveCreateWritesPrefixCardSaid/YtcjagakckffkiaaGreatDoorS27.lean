import Derived.Test.YtcjagakckffkiaaGreatDoorS26
set_option maxHeartbeats 16000000
set_option maxRecDepth 100000
namespace Go.Proofs.YtcjagakckffkiaaGreatDoor
namespace Tre
open Go.RowKit Go.MapKept Go.Proofs.YtcjagakckffkiaaGreatDoor.Fit Pnm
theorem yb (a:Option Addr)(n cap:Nat)(ys:List aP)(w:World)(V:dS w)(ha:bA w a n cap ys) :
 Calls Tryz.prog 28 #[.slice a n cap] w fun e w'=>e= .returned (.tuple #[.int .i64 (cA (ax ys)).1,.int .i64 (cA (ax ys)).2])/\Below w.heap.size w w':=by
 have HA:=aa ha;have HV:=aa V;have NZ:=aa zH;have NO:=aa zF;have hn:n<=maxLen:=Nat.le_trans ha.c ha.m;have HN:Hid (ys.length=n) :=ha.n;have HL:Hid ((ax ys).length=n) :=by show _=_;rw[aV];exact ha.n
 obtain⟨X1,hX1⟩:=named (cA (ax ys)).1;obtain⟨X2,hX2⟩:=named (cA (ax ys)).2
 have FIN:Hid (∀R:Int,∀i:Nat,i<n-> (∀k,k<i->cI (nd (ax ys) k) =0)->R=cI (nd (ax ys) i)->R≠0->X1=i/\X2=R) :=fun R i hi hp hR h0=>by
  have:=tI (l:=ax ys) (i:=i) (by rw[HL.out];exact hi) hp (by rw[<- hR];exact h0);rw[hX1.out,hX2.out,this,hR];exact⟨rfl,rfl⟩
 have HT:Hid ((∀k,k<n->cI (nd (ax ys) k) =0)->∀w',Below w.heap.size w w'->Calls Tryz.prog 53 #[.slice a n cap] w' fun e w''=>e= .returned (.tuple #[.int .i64 X1,.int .i64 X2])/\Below w'.heap.size w' w'') :=fun h w' hb=>by
  rw[hX1.out,hX2.out];exact yw a n cap ys w' (HA.out.below hb) h
 rw[<- hX1.out,<- hX2.out];unfold maxLen at hn;clear ha V hX1 hX2;go_enter Tryz.func28,Tryz.ntmps28;go_wp2_with fail;go_loopw [9] (fun i wr=>∃j:Nat,i= .int .i64 j/\j<=n/\ (∀k,k<j->cI (nd (ax ys) k) =0)/\Below w.heap.size w wr) (fun i _=>n- (intOf i).toNat)
 case atStart=>exact⟨0,rfl,Nat.zero_le _,fun k hk=>absurd hk (Nat.not_lt_zero k),au⟩
 case round=>
  obtain⟨j,rfl,hj,hp,hB⟩:=hrel;have HP:=aa hp;have HB:=aa hB;clear hp hB;by_cases hjn:j<n
  ·obtain⟨b,off,y,rfl,hb,hy,hf,hat⟩:=HA.out.get j hjn;have hat':=hat.below HB.out hb;obtain⟨c0,c1,c2,c3,c4,c5⟩:=hat'.c hy;obtain⟨R,hR⟩:=named (cI y.n);have EY:Hid (R=cI (nd (ax ys) j)) :=by show _=_;rw[hR.out,fS hy]
   have ONE:Hid (∀w',Below w.heap.size w w'->Calls Tryz.prog 52 #[.agg (eY y).toArray] w' fun e w''=>e= .returned (.int .i64 R)/\Below w'.heap.size w' w'') :=fun w' hb'=>by
    rw[hR.out];exact yv y.n.k y.n.p y.n.m y.n.t y.a y.n.d y.cap y.n.c w' (HV.out.go hb') (Nat.le_trans hf.p (by decide)) (Nat.le_trans hf.t (by decide))
   clear hat hat' hf hy hR;obtain⟨⟨k,p,m,t,d,c⟩,x,xc⟩:=y;obtain⟨L,hL⟩:=named d.length;have c4':wr.cell? ⟨b,off+j*6+4,none⟩=some (.slice x L xc) :=by rw[hL.out];exact c4
   have ONE':Hid (∀w',Below w.heap.size w w'->Calls Tryz.prog 52 #[.agg (cg k p m t x L xc c).toArray] w' fun e w''=>e= .returned (.int .i64 R)/\Below w'.heap.size w' w'') :=by rw[hL.out];exact ONE.out
   clear c4 hL ONE hb;have j1: (j:Int) <n:=by omega
   go_wp2_with (first| (refine ag rfl 77 rfl (cg 0 emp 0 emp none 0 0 0) NZ.out ?_;intro w2 g2 b2;have G2:=aa g2;have B2:=aa (ar HB.out b2);clear g2 b2 c0 c1 c2 c3 c4' c5) | (refine ae rfl 77 _ _ rfl wr.heap.size rfl (cg k p m t x L xc c) (cg 0 emp 0 emp none 0 0 0) rfl 77 G2.out NO.out.2 rfl (dK _ _ _ _ _ _ _ _) ?_;intro w3 g3 t3;have B3:=aa (B2.out.trans (t3.below HB.out.size));have c0:=g3.get 0 rfl;have c1:=g3.get 1 rfl;have c2:=g3.get 2 rfl;have c3:=g3.get 3 rfl;have c4:=g3.get 4 rfl;have c5:=g3.get 5 rfl;clear g3 t3));refine(ONE'.out w3 B3.out).mono ?_;rintro e w4 ⟨rfl,b4⟩;have B4:=aa (ar B3.out b4);clear b4 c0 c1 c2 c3 c4 c5;by_cases hr:R=0
   ·subst hr;clear FIN HT;go_wp2_with fail
    go_round
    case rel=>exact⟨j+1,by go_num,by omega,fun k hk=>by
     by_cases h:k<j
     ·exact HP.out k h
     ·obtain rfl:k=j:=by omega
      exact EY.out.symm,B4.out⟩
    case measure=>simp[intOf];omega
   ·obtain⟨q1,q2⟩:=FIN.out R j hjn HP.out EY.out hr;have nr: (R !=0) =true:=by simpa using hr
    clear FIN HT hr EY ONE';subst q1 q2;go_wp2_with fail;go_ret2;exact⟨rfl,B4.out⟩
  ·obtain rfl:j=n:=by omega
   have H:=aa (HT.out HP.out wr HB.out);clear FIN HT;go_wp2_with fail;refine H.out.mono ?_;rintro e w4 ⟨rfl,b4⟩;have B4:=aa (ar HB.out b4);clear b4;go_wp2_with fail;go_ret2;exact⟨rfl,B4.out⟩
end Tre
namespace Tre
open Go.RowKit
theorem bY.of_cells {w:World}{g:Nat}{e:TypeId}{ys:List aP}(h:an w g e (bc ys)) :bY w g 0 ys:=fun i y hi j v hv=>by
 rw[Nat.zero_add,h.cell];exact gC ys i y hi j v hv
theorem bY.news {w:World}{b off:Nat}{ys:List aP}(h:bY w b off ys) :∀j u,(bc ys)[j]? =some u->w.cell? ((⟨b,off,none⟩:Addr).add j) =some u:=fun j u hu=>by
 rw[cO];have hj:j< (bc ys).length:= (List.getElem?_eq_some_iff.mp hu).1;rw[dr]at hj;have hi:j/6<ys.length:=by omega
 have hy:ys[j/6]? =some ys[j/6] :=List.getElem?_eq_getElem hi;have hr:j % 6< (eY ys[j/6]).length:=by simp;omega
 have hv: (eY ys[j/6])[j % 6]? =some (eY ys[j/6])[j % 6] :=List.getElem?_eq_getElem hr;have h1:=gC ys (j/6) _ hy (j % 6) _ hv;rw[show j/6*6+j % 6=j by omega,hu]at h1;have h2:=h (j/6) _ hy (j % 6) _ hv;rw[show off+j/6*6+j % 6=off+j by omega]at h2;rw[h2,h1]
theorem rn (ys:List aP) :∀u∈bc ys,u.oneCell'=true:=by
 intro u hu;unfold bc at hu;obtain⟨y,_,h⟩:=List.mem_flatMap.mp hu;revert h;simp;rintro(rfl|rfl|rfl|rfl|rfl|rfl) <;>rfl
theorem cw.bG {w:World}{base n:Nat}{e:TypeId}{v:Value}{ys:List aP}(h:w.ownsRow base e 6 v n (bc ys)) :
 ∃a c,v= .slice a n c/\n=ys.length/\n<=c/\c<=maxLen/\cw w a ys/\ (∀x,a=some x->base<=x.block/\x.block<w.heap.size) :=by
 have hl:=h.1;rw[dr]at hl;have hn:n=ys.length:=by omega
 rcases h.2 with⟨hv,h0⟩|⟨g,cap,cur,hv,hb,hh,hc,hm,hs,ht⟩
 ·subst h0;exact⟨none,0,hv,hn,aj,Nat.zero_le _,.inl (List.length_eq_zero_iff.1 hn.symm),fun x hx=>by cases hx⟩
 ·have hlt:g<w.heap.size:= (Array.getElem?_eq_some_iff.1 hh).1;refine⟨some ⟨g,0,none⟩,cap,hv,hn,hc,hm,.inr ⟨g,0,rfl,hlt,fun i y hi j u hu=>?_⟩,fun x hx=>by cases hx;exact⟨hb,hlt⟩⟩;have hat:=gC ys i y hi j u hu;have hir:i<ys.length:= (List.getElem?_eq_some_iff.1 hi).1;have hj6:j<6:=by have:= (List.getElem?_eq_some_iff.mp hu).1;simpa using this
  have hlt2:i*6+j<n*6:=by omega
  rw[<- ht,List.getElem?_take,if_pos hlt2]at hat;rw[Nat.zero_add,World.cell?,hh]
  simpa using hat
section
variable {P:Program} {w:World} {ops:Array Oper} {rest:List Oper} {o:Oper} {a:Act} {Q:Exit->Act->World->Prop}
theorem rQ (t e:TypeId)(ht:P.underlying t=some (.slice e))(z:Value)(hI: (P.info? e).map (fun i=> (i.zero,i.size)) =some (some z,6)) :
 (Instr.buildSlice t 0 #[]).run P w= .ok (.slice (some ⟨w.heap.size,0,none⟩) 0 0) (w.alloc (.cells #[] e)) :=by
 cases hq:P.info? e with
 |none=>simp[hq]at hI
 |some i=>
  simp[hq]at hI;simp[Instr.buildSlice,run_underlying ht,sizeOf,typeInfo,hq,Instr.fill,newRow];rw[show Array.range 0= #[] by decide];simp
theorem ry (w:World)(e:TypeId) : (w.alloc (.cells #[] e)).ownsRow w.heap.size e 6 (.slice (some ⟨w.heap.size,0,none⟩) 0 0) 0 (bc []) :=
 ⟨rfl,.inr ⟨w.heap.size,0,#[],rfl,aj,heap_alloc_new w _,aj,Nat.zero_le _,rfl,rfl⟩⟩
theorem rR (t e:TypeId)(ht:P.underlying t=some (.slice e))(z:Value)(hI: (P.info? e).map (fun i=> (i.zero,i.size)) =some (some z,6))(y:aP) :
 (Instr.buildSlice t 1 #[(0,.agg (eY y).toArray)]).run P w= .ok (.slice (some ⟨w.heap.size,0,none⟩) 1 1) (w.alloc (.cells (bc [y]).toArray e)) :=by
 cases hq:P.info? e with
 |none=>simp[hq]at hI
 |some i=>
  simp[hq]at hI;simp[Instr.buildSlice,run_underlying ht,sizeOf,typeInfo,zeroValue,hq,hI.1,hI.2,Instr.fill,newRow,Value.cells];rw[show Array.range 6= #[0,1,2,3,4,5] by decide];simp[bc]
theorem fI (hgd:o.guard=none)(t e:TypeId)(x:Operand)(ho:o.op= .buildSlice t 1 #[(0,x)])(ht:P.underlying t=some (.slice e))(z:Value)(hI: (P.info? e).map (fun i=> (i.zero,i.size)) =some (some z,6))
 (y:aP)(hx:a.eval x= .agg (eY y).toArray)
 (K:∀w',an w' w.heap.size e (bc [y])->Below w.heap.size w w'->wpList P ops Q rest (a.put o.dst (.slice (some ⟨w.heap.size,0,none⟩) 1 1)) w') :wpList P ops Q (o::rest) a w:=by
 refine wpList_plain hgd fun K' hK=>?_;have hrun:=rR (P:=P) (w:=w) t e ht z hI y;unfold Oper.wp;simp only[execOp,ho,List.map_toArray,List.map_cons,List.map_nil,hx,hrun,Sem.run_bind,Sem.run_pure,Result.andThen_ok];exact hK _ _ (K _ (heap_alloc_new w _) (au.alloc aj _))
theorem ed (hgd:o.guard=none)(t e:TypeId)(ho:o.op= .buildSlice t 0 #[])(ht:P.underlying t=some (.slice e))(z:Value)(hI: (P.info? e).map (fun i=> (i.zero,i.size)) =some (some z,6))
 (K:∀w',w'.ownsRow w.heap.size e 6 (.slice (some ⟨w.heap.size,0,none⟩) 0 0) 0 (bc [])->Below w.heap.size w w'->wpList P ops Q rest (a.put o.dst (.slice (some ⟨w.heap.size,0,none⟩) 0 0)) w') :wpList P ops Q (o::rest) a w:=by
 refine wpList_plain hgd fun K' hK=>?_;have hrun:=rQ (P:=P) (w:=w) t e ht z hI;unfold Oper.wp;simp[execOp,ho,hrun,Result.andThen];exact hK _ _ (K _ (ry w e) (au.alloc aj _))
theorem ny (t ty e:TypeId)(base:Nat)(i0:TypeInfo)(z:Value)(hT:P.underlying t=some (.slice e))(hI:Hid (P.info? e=some i0/\i0.zero=some z/\i0.size=6/\i0.bytes=80))(hz:z.cells.size=6)
 (v:Value)(n:Nat)(ys:List aP)(hown:w.ownsRow base e 6 v n (bc ys))
 (b:Option Addr)(m c:Nat)(xs:List aP)(hy:cw w b xs)(hl:xs.length=m)(h47:n+m<=1759218604441)(hbase:base<=w.heap.size) :
 ∃v' w',(Builtin.append_ #[t,t] ty #[v,.slice b m c]).run P w= .ok v' w'/\w'.ownsRow base e 6 v' (n+m) (bc (ys++xs))/\Below base w w'/\ (∀k,k<w.heap.size->some k≠v.ownBlock->w'.heap[k]? =w.heap[k]?)/\ (v'.ownBlock=v.ownBlock\/v'.ownBlock=some w.heap.size) :=by
 rcases hy with hy|⟨b',off,rfl,_,hy⟩
 ·subst hy;obtain rfl:m=0:=hl.symm;exact⟨v,w,cJ (P:=P) w base t ty e i0 6 hT hI.out.1 v n _ hown b c,by simpa using hown,au,fun _ _ _=>rfl,.inl rfl⟩
 ·obtain⟨v',w',hr,k1,k2,_,k3⟩:=run_append_own_at (P:=P) w base t ty e i0 z 6 80 hT hI.out.1 hI.out.2.1 hI.out.2.2.1 hI.out.2.2.2 hz (by decide) v n _ hown ⟨b',off,none⟩ m c (bc xs) (by rw[dr,hl]) hy.news (rn xs) (by unfold maxLen;omega) (by omega) hbase;exact⟨v',w',hr,by rw[mP];exact k1,au.grown k2 hbase (fun k hk=> (gp hown k hk).1),fun k hk hr=>k2.block k hk hr,k3⟩
theorem bf (hgd:o.guard=none)(s x:Operand)(t:TypeId)(ho:o.op= .call {callee:= .builtin .append,args:= #[s,x],argTypes:= #[t,t]})
 (e:TypeId)(base:Nat)(i0:TypeInfo)(z:Value)(hT:P.underlying t=some (.slice e))(hI:Hid (P.info? e=some i0/\i0.zero=some z/\i0.size=6/\i0.bytes=80))(hz:z.cells.size=6)
 (v:Value)(n:Nat)(ys:List aP)(hs:a.eval s=v)(hown:w.ownsRow base e 6 v n (bc ys))
 (b:Option Addr)(m c:Nat)(xs:List aP)(hx:a.eval x= .slice b m c)(hy:cw w b xs)(hl:xs.length=m)(h47:n+m<=1759218604441)(hbase:base<=w.heap.size)
 (K:∀v' w',w'.ownsRow base e 6 v' (n+m) (bc (ys++xs))->Below base w w'-> (∀k,k<w.heap.size->some k≠v.ownBlock->w'.heap[k]? =w.heap[k]?)-> (v'.ownBlock=v.ownBlock\/v'.ownBlock=some w.heap.size)->wpList P ops Q rest (a.put o.dst v') w') :wpList P ops Q (o::rest) a w:=by
 obtain⟨v',w',hr,k1,k2,k3,k4⟩:=ny (P:=P) (w:=w) t o.type e base i0 z hT hI hz v n ys hown b m c xs hy hl h47 hbase;refine wpList_plain hgd fun K' hK=>?_;unfold Oper.wp;simp[execOp,ho,resolve,invoke,builtin,hs,hx,hr,Result.andThen];exact hK _ _ (K _ _ k1 k2 k3 k4)
end
end Tre
namespace Tre
open Go.RowKit Go.Proofs.YtcjagakckffkiaaGreatDoor.Fit Pnm
theorem Ge: (Tryz.prog.info? 77).map (fun i=> (i.zero,i.size)) =some (some (.agg (cg 0 emp 0 emp none 0 0 0).toArray),6) :=by kernel_rfl
end Tre
namespace Tre
open Go.RowKit Go.MapKept Go.Proofs.YtcjagakckffkiaaGreatDoor.Fit
theorem mO (a:Option Addr)(n cap:Nat)(ys:List aP)(w:World)(hy:cw w a ys)(hl:ys.length=n)(hn:n<=1000000) :
 Calls Tryz.prog 94 #[.slice a n cap] w fun e w'=>∃v,e= .returned v/\w'.ownsRow w.heap.size 77 6 v n (bc ys)/\Below w.heap.size w w':=by
 have HY:=aa hy;have HL:=aa hl;have HN:=aa hn;have I6:=aa Ge;obtain⟨i0,HI0⟩:=lH (P:=Tryz.prog) (e:=77) (z:= .agg (cg 0 emp 0 emp none 0 0 0).toArray) (s:=6) (b:=80) (by kernel_rfl);clear hy hl hn;have he:∀w:World,(binOp .eql 22 (.slice none n cap) (.slice none 0 0)).run Tryz.prog w= .ok (.bool true) w:=fun _=>rfl;have he':∀(x:Addr) (w:World),(binOp .eql 22 (.slice (some x) n cap) (.slice none 0 0)).run Tryz.prog w= .ok (.bool false) w:=fun _ _=>rfl
 cases a with
 |none=>
  have h0:ys= [] :=by
   rcases HY.out with h|⟨_,_,h,_⟩
   ·exact h
   ·cases h
  subst h0;obtain rfl:n=0:=HL.out.symm;go_enter Tryz.func94,Tryz.ntmps94;go_wp2;go_ret;exact⟨_,rfl,⟨rfl,.inl ⟨rfl,rfl⟩⟩,au⟩
 |some x=>
  go_enter Tryz.func94,Tryz.ntmps94;go_wp2_with (first| (refine ed rfl 22 77 rfl Tryz.underlying22 _ I6.out ?_;intro w1 h1 b1;have O1:=aa h1;have B1:=aa b1;clear h1 b1) | (at_builtin;refine bf rfl _ _ 22 rfl 77 w.heap.size i0 _ Tryz.underlying22 HI0 rfl (.slice (some ⟨w.heap.size,0,none⟩) 0 0) 0 [] rfl O1.out (some x) n cap ys rfl (HY.out.below B1.out) HL.out (by have:=HN.out;omega) B1.out.size ?_;intro v2 w2 h2 b2 _ _;rw[Nat.zero_add,List.nil_append]at h2;have O2:=aa h2;have B2:=aa b2;clear h2 b2));go_ret;exact⟨_,rfl,O2.out,B1.out.trans B2.out⟩
theorem yQ (a:Option Addr)(cap:Nat)(w:World) :
 Calls Tryz.prog 95 #[.slice a 0 cap,.func (.func 96) #[] #[]] w fun e w'=>e= .returned (.tuple #[])/\w'=w:=by
 have I:Hid (Calls Tryz.prog 193 #[.slice a 0 cap,.int .i64 0,.int .i64 0,.func (.func 96) #[] #[]] w fun e w'=>e= .returned (.tuple #[])/\w'=w) :=by
  show Calls _ _ _ _ _;go_enter Tryz.func193,Tryz.ntmps193;go_wp2_with fail;go_loopw [8] (fun v wr=>v= .int .i64 1/\wr=w) (fun _ _=>0)
  case atStart=>exact⟨rfl,rfl⟩
  case round=>
   obtain⟨rfl,rfl⟩:=hrel;go_wp2_with fail
   go_end0
   exact⟨rfl,rfl⟩
 have S:Hid (Calls Tryz.prog 144 #[.slice a 0 cap,.int .i64 0,.func (.func 96) #[] #[]] w fun e w'=>e= .returned (.tuple #[])/\w'=w) :=by
  show Calls _ _ _ _ _;go_enter Tryz.func144,Tryz.ntmps144;go_wp2_with fail;go_loopw [7,8] (fun v u wr=>v= .int .i64 0/\u= .int .i64 20/\wr=w) (fun _ _ _=>0)
  case atStart=>exact⟨rfl,rfl,rfl⟩
  case round=>
   obtain⟨rfl,rfl,rfl⟩:=hrel;go_wp2_with fail;refine I.out.mono ?_;rintro e w1 ⟨rfl,rfl⟩;go_wp2_with fail;go_loopw [6] (fun v wr=>v= .int .i64 20/\wr=w1) (fun _ _=>0)
   case atStart=>exact⟨rfl,rfl⟩
   case round=>
    obtain⟨rfl,rfl⟩:=hrel;go_wp2_with fail
    go_end0
    exact⟨rfl,rfl⟩
 clear I;go_enter Tryz.func95,Tryz.ntmps95;go_wp2_with fail;refine S.out.mono ?_;rintro e w1 ⟨rfl,rfl⟩;go_wp2_with fail
 go_end0
 exact⟨rfl,rfl⟩
def ve (ys:List aP)(n:Nat)(c:Int) :Nat:= ((cs (ax ys)).take n).count c
theorem wV {ys:List aP}{n:Nat}{y:aP}(h:ys[n]? =some y)(c:Int) :ve ys (n+1) c=if y.n.c=c then ve ys n c+1 else ve ys n c:=by
 unfold ve;have hc: (cs (ax ys))[n]? =some y.n.c:=by unfold cs;rw[List.getElem?_map,eU h];rfl
 rw[List.take_add_one,hc];simp only[Option.toList_some,List.count_append,List.count_singleton];by_cases e:y.n.c=c
 ·simp[e]
 ·simp[e]
theorem Cz (ys:List aP)(n:Nat)(c:Int) :ve ys n c<=n:=by
 unfold ve;exact Nat.le_trans List.count_le_length (by rw[List.length_take];omega)
theorem zU {ys:List aP}{n:Nat}(h:ys.length=n)(c:Int) :ve ys n c= (cs (ax ys)).count c:=by
 unfold ve;rw[List.take_of_length_le (by unfold cs;rw[List.length_map,aV,h];exact aj)]
def DO (F:Value->Option Value)(ys:List aP)(n:Nat) :Prop:=∀c:Int,(F (.int .i64 c)).getD (.int .i64 0) = .int .i64 (ve ys n c)
theorem DO.step {F:Value->Option Value}{ys:List aP}{n:Nat}(h:DO F ys n){y:aP}(hy:ys[n]? =some y) :DO (rZ F (.int .i64 y.n.c) (.int .i64 ((ve ys n y.n.c:Int) +1))) ys (n+1) :=fun c=>by
 rw[wV hy];by_cases e:y.n.c=c
 ·subst e;rw[du,if_pos rfl];simp
 ·rw[fG (fun h=>e (by injection h with _ h;exact h.symm)),if_neg e];exact h c
theorem oB (a:Option Addr)(n cap:Nat)(ys:List aP)(w:World)(ha:cw w a ys)(hl:ys.length=n)(hn:n<=1000000) :
 Calls Tryz.prog 98 #[.slice a n cap,.func (.func 90) #[] #[]] w fun e w'=>∃g N F,e= .returned (.map (some g))/\dG w' g (.int .i64) N F/\DO F ys n/\w.heap.size<=g/\Below w.heap.size w w':=by
 have HA:=aa ha;have HL:=aa hl;have NZ:=aa zH;have NO:=aa zF;have ZI:Hid ((Tryz.prog.info? 3).map (·.zero) =some (some (.int .i64 0))) :=by show _=_;kernel_rfl
 have UM:=aa Tryz.underlying171;have UK:=aa Tryz.underlying3;clear ha hl;go_enter Tryz.func98,Tryz.ntmps98;go_wp2_with (first| (refine bo rfl _ rfl (.int .i64) ?_;intro w1 m1 b1;have M1:=aa m1;have B1:=aa b1;have S1:=aa m1.lt;clear m1 b1));go_loopw [11] (fun i wr=>∃(j N:Nat) (F:Value->Option Value),i= .int .i64 j/\j<=n/\dG wr w.heap.size (.int .i64) N F/\DO F ys j/\Below w.heap.size w wr) (fun i _=>n- (intOf i).toNat)
 case atStart=>exact⟨0,0,_,rfl,Nat.zero_le _,M1.out,fun c=>rfl,B1.out⟩
 case round=>
  obtain⟨j,N,F,rfl,hj,hM,hF,hB⟩:=hrel;have HM:=aa hM;have HB:=aa hB;have HF:=aa hF;have W0:Hid (w.heap.size<wr.heap.size) :=hM.lt;clear hM hB hF;by_cases hjn:j<n
  ·have hlt:j<ys.length:=by rw[HL.out];exact hjn
   have hy:ys[j]? =some ys[j] :=List.getElem?_eq_getElem hlt;obtain⟨y,ey⟩:∃y,y=ys[j] :=⟨_,rfl⟩;rw[<- ey]at hy
   obtain⟨b,off,rfl,hb,hat⟩:∃b off,a=some ⟨b,off,none⟩/\b<w.heap.size/\bY w b off ys:=by
    rcases HA.out with h0|h
    ·simp[h0]at hlt
    ·exact h
   have hat':=hat.below HB.out hb;obtain⟨c0,c1,c2,c3,c4,c5⟩:=hat'.c hy;have FS:=aa (HF.out.step hy);have FQ:=aa (HF.out y.n.c);have CL:=Cz ys j y.n.c;obtain⟨M,hM⟩:=named (ve ys j y.n.c);rw[<- hM.out]at FS FQ CL;clear hat hat' hy ey hlt hM;obtain⟨⟨k,p,m,t,d,c⟩,x,xc⟩:=y;obtain⟨L,hL⟩:=named d.length;have c4':wr.cell? ⟨b,off+j*6+4,none⟩=some (.slice x L xc) :=by rw[hL.out];exact c4
   have m1: (M:Int) +1<=1000001:=by omega
   have wm:IntKind.i64.wrap ((M:Int) +1) = (M:Int) +1:=gw (by omega) (by omega);clear c4 hL CL;have j1: (j:Int) <n:=by omega
   have NB:Hid (b<w.heap.size) :=hb;clear hb hjn;go_wp2_with (first| (refine ag rfl 77 rfl (cg 0 emp 0 emp none 0 0 0) NZ.out ?_;intro w2 g2 b2;have G2:=aa g2;have M2:=aa (HM.out.below b2 HM.out.lt);have B2:=aa (HB.out.trans (b2.mono (Nat.le_of_lt W0.out)));have W2:=aa b2.size;clear g2 b2 c0 c1 c2 c3 c4' c5) | (refine ae rfl 77 _ _ rfl wr.heap.size rfl (cg k p m t x L xc c) (cg 0 emp 0 emp none 0 0 0) rfl 77 G2.out NO.out.2 rfl (dK _ _ _ _ _ _ _ _) ?_;intro w3 g3 t3;have G3:=aa g3;have M3:=aa (M2.out.block (t3.other (Nat.ne_of_lt W0.out)));have B3:=aa (B2.out.trans (t3.below (Nat.le_of_lt W0.out)));have W3:=aa (Nat.le_trans W2.out (Nat.le_of_eq t3.size.symm));have c0:=g3.get 0 rfl;have c1:=g3.get 1 rfl;have c2:=g3.get 2 rfl;have c3:=g3.get 3 rfl;have c4:=g3.get 4 rfl;have c5:=g3.get 5 rfl;clear g3 t3));refine(gU k p m t x L xc c w3).mono ?_;rintro e w4 ⟨rfl,b4⟩;have M4:=aa (M3.out.below b4 M3.out.lt);have B4:=aa (ar B3.out b4);clear b4 c0 c1 c2 c3 c4 c5;obtain⟨q1,q2⟩:=bE (P:=Tryz.prog) (w:=w4) 171 3 3 UM.out (.int .i64) UK.out (.int .i64 0) ZI.out w.heap.size N (.int .i64 c) (show IsKey (.int .i64) (.int .i64 c)from rfl) F M4.out;rw[FQ.out]at q2;clear q1;go_wp2_with (first| (refine bT rfl 171 _ _ _ rfl 3 3 UM.out (.int .i64) UK.out w.heap.size rfl (.int .i64 c) rfl (show IsKey (.int .i64) (.int .i64 c)from rfl) (.int .i64 ((M:Int) +1)) (by first|rfl| (show Value.int .i64 (wrap64 _) =_;rw[show wrap64 ((M:Int) +1) = (M:Int) +1 from wm])) N _ M4.out ?_;intro w6 m6 t6;have M6:=aa m6;have B6:=aa (B4.out.trans (t6.below aj));clear m6 t6))
   go_round
   case rel=>exact⟨j+1,_,_,by go_num,by omega,M6.out,FS.out,B6.out⟩
   case measure=>simp[intOf];omega
  ·obtain rfl:j=n:=by omega
   go_wp2;go_ret;exact⟨_,N,F,rfl,HM.out,HF.out,aj,HB.out⟩
theorem bY.setAt {w:World}{g off:Nat}{us:List aP}(h:bY w g off us){i:Nat}{y:aP}(hi:us[i]? =some y)(z:aP)(k:Nat)(v:Value)(hv: (eY z)[k]? =some v)
 (hk:∀j u,j≠k-> (eY z)[j]? =some u-> (eY y)[j]? =some u) :bY (w.setCell ⟨g,off+i*6+k,none⟩ v) g off (us.set i z) :=fun i' y' hi' j u hu=>by
 have hk6:k<6:=by have:= (List.getElem?_eq_some_iff.mp hv).1;simpa using this
 have hj6:j<6:=by have:= (List.getElem?_eq_some_iff.mp hu).1;simpa using this
 have hil:i<us.length:= (List.getElem?_eq_some_iff.mp hi).1;by_cases e:i'=i
 ·subst e;rw[List.getElem?_set_self hil]at hi';obtain rfl:=Option.some.inj hi';by_cases ej:j=k
  ·subst ej;obtain rfl:v=u:=Option.some.inj (hv.symm.trans hu);have hy:j< (eY y).length:=by simpa using hj6
   exact World.cell?_setCell_same (h:=h i' y hi j _ (List.getElem?_eq_getElem hy)) ..
  ·rw[World.cell?_setCell_other (h:=by intro h;injection h with _ h;omega) ..];exact h i' y hi j u (hk j u ej hu)
 ·rw[List.getElem?_set_ne (fun h=>e h.symm)]at hi';rw[World.cell?_setCell_other (h:=by intro h;injection h with _ h;omega) ..];exact h i' y' hi' j u hu
theorem uj (n:Nd)(a a':Option Addr)(c c':Nat) :∀j u,j≠4-> (eY ⟨n,a',c'⟩)[j]? =some u-> (eY ⟨n,a,c⟩)[j]? =some u:=by
 intro j u hj hu;rcases j with _|_|_|_|_|_|j
 ·exact hu
 ·exact hu
 ·exact hu
 ·exact hu
 ·exact absurd rfl hj
 ·exact hu
 ·simp at hu
theorem mD (n:Nd)(a:Option Addr)(c:Nat)(x:Int) :∀j u,j≠5-> (eY ⟨{n with c:=x},a,c⟩)[j]? =some u-> (eY ⟨n,a,c⟩)[j]? =some u:=by
 intro j u hj hu;rcases j with _|_|_|_|_|_|j
 ·exact hu
 ·exact hu
 ·exact hu
 ·exact hu
 ·exact hu
 ·exact absurd rfl hj
 ·simp at hu
theorem ew {w w':World}{g:Nat}(h:∀k,w.frozen? ⟨g,k,none⟩=false)(e:w'.heap[g]? =w.heap[g]?) :∀k,w'.frozen? ⟨g,k,none⟩=false:=fun k=>by
 have:=h k;unfold World.frozen? at this⊢;rw[e];exact this
section
variable {P:Program} {w:World} {ops:Array Oper} {rest:List Oper} {o:Oper} {a:Act} {Q:Exit->Act->World->Prop}
theorem bh (hgd:o.guard=none)(T:TypeId)(x y:Operand)(ho:o.op= .store T x y)(g q:Nat)(hx:a.eval x= .pointer (some ⟨g,q,none⟩))
 (v:Value)(hy:a.eval y=v)(h1:v.oneCell'=true)(hs: (P.info? T).map (·.size) =some 1)(us:List aP)(i k:Nat)(z z':aP)(hq:q=i*6+k)(hi:us[i]? =some z)(hat:bY w g 0 us)(hf:∀j,w.frozen? ⟨g,j,none⟩=false)
 (hv: (eY z')[k]? =some v)(hk:∀j u,j≠k-> (eY z')[j]? =some u-> (eY z)[j]? =some u)
 (K:∀w',bY w' g 0 (us.set i z')-> (∀j,w'.frozen? ⟨g,j,none⟩=false)->dU w w' g->wpList P ops Q rest (a.put o.dst undef) w') :wpList P ops Q (o::rest) a w:=by
 subst hq;have hk6:k< (eY z).length:=by have:= (List.getElem?_eq_some_iff.mp hv).1;simpa using this
 have hc:w.cell? ⟨g,i*6+k,none⟩=some (eY z)[k] :=by
  have:=hat i z hi k _ (List.getElem?_eq_getElem hk6);rw[Nat.zero_add]at this;exact this
 have hset:bY (w.setCell ⟨g,i*6+k,none⟩ v) g 0 (us.set i z') :=by
  have:=hat.setAt hi z' k v hv hk;rw[Nat.zero_add]at this;exact this
 refine wpList_plain hgd fun K' hK=>?_;have hv1:v.cells= #[v] :=by cases v<;>first|rfl| (simp[Value.oneCell']at h1)
 cases hq:P.info? T with
 |none=>simp[hq]at hs
 |some j=>
  have hj:j.size=1:=by simpa [hq]using hs
  have ha: (⟨g,i*6+k,none⟩:Addr).add 0=⟨g,i*6+k,none⟩:=cO g _ 0
  have hrun: (storeVar T ⟨g,i*6+k,none⟩ v).run P w= .ok () (w.setCell ⟨g,i*6+k,none⟩ v) :=by
   simp[storeVar,sizeOf,typeInfo,hq,hj,hv1,storeCells,run_store P w _ v _ h1,ha,hc,hf (i*6+k)]
  unfold Oper.wp execOp;simp only[ho,hx,hy,Instr.storeAt,Instr.sureAddr,Sem.run_bind,Sem.run_pure,Result.andThen_ok,hrun];exact hK _ _ (K _ hset (fun j=>by rw[World.frozen?_setCell];exact hf j) ⟨fun hB=>au.setCell hB v,fun hk=>Below.heap_setCell _ _ _ _ hk,by simp[World.setCell]⟩)
end
def gx (B:Nat)(w:World)(y:aP) :Prop:=w.ownsRow B 5 1 (.slice y.a y.n.d.length y.cap) y.n.d.length (y.n.d.map (.int .u8))
structure Kp (C B g m:Nat) (w w':World) :Prop where
 fr:∀u,gx B w u->gx B w' u
 wL:∀k,k<B->k≠g->k≠m->w'.heap[k]? =w.heap[k]?
 nT:Below C w w'
 sz:w.heap.size<=w'.heap.size
theorem Kp.refl (C B g m:Nat)(w:World) :Kp C B g m w w:=⟨fun _ h=>h,fun _ _ _ _=>rfl,au,aj⟩
theorem Kp.trans {C B g m:Nat}{a b c:World}(h:Kp C B g m a b)(k:Kp C B g m b c) :Kp C B g m a c:=
 ⟨fun u hu=>k.fr u (h.fr u hu),fun i h1 h2 h3=> (k.wL i h1 h2 h3).trans (h.wL i h1 h2 h3),h.nT.trans k.nT,Nat.le_trans h.sz k.sz⟩
theorem Kp.aW {C B g m:Nat}{w w':World}(h:Below w.heap.size w w')(hB:B<=w.heap.size)(hC:C<=w.heap.size) :Kp C B g m w w':=
 ⟨fun _ hu=>bS hu h aj,fun k hk _ _=>h.block k (by omega),h.mono hC,h.size⟩
theorem Kp.cH {C B g m:Nat}{w w':World}(h:dU w w' g)(hB:g<B)(hC:C<=g) :Kp C B g m w w':=
 ⟨fun _ hu=>aH hu h hB,fun _ _ h1 _=>h.other h1,h.below hC,Nat.le_of_eq h.size.symm⟩
theorem Kp.of_map {C B g m:Nat}{w w':World}(h:dU w w' m)(hB:m<B)(hC:C<=m) :Kp C B g m w w':=
 ⟨fun _ hu=>aH hu h hB,fun _ _ _ h2=>h.other h2,h.below hC,Nat.le_of_eq h.size.symm⟩
def sj (F:Value->Option Value)(S:List Int)(j:Nat) :Prop:=∀c:Int,F (.int .i64 c) =if c∈bC S j then some (.int .i64 (num S c))else none
theorem sj.stay {F:Value->Option Value}{S:List Int}{j:Nat}(h:sj F S j)(hj:j<S.length)(hn:¬cR S S[j]\/S[j]∈bC S j) :sj F S (j+1)/\bC S (j+1) =bC S j:=by
 have e:bC S (j+1) =bC S j:=by
  rw[fp hj,if_neg];rintro⟨h1,h2⟩;exact hn.elim (fun h=>h h1) h2
 exact⟨fun c=>by rw[e];exact h c,e⟩
theorem sj.more {F:Value->Option Value}{S:List Int}{j:Nat}(h:sj F S j)(hj:j<S.length)(hm:cR S S[j])(hn:S[j]∉bC S j) :
 sj (rZ F (.int .i64 S[j]) (.int .i64 (((bC S j).length:Int) +1))) S (j+1)/\ (bC S (j+1)).length= (bC S j).length+1:=by
 have e:bC S (j+1) =bC S j++ [S[j]] :=by rw[fp hj,if_pos ⟨hm,hn⟩]
 refine⟨fun c=>?_,by rw[e];simp⟩;rw[e];by_cases ec:c=S[j]
 ·subst ec;rw[du,if_pos (by simp),pP hj hm hn]
 ·rw[fG (fun h=>ec (by injection h)),h c];by_cases h1:c∈bC S j
  ·rw[if_pos h1,if_pos (by simp[h1])]
  ·rw[if_neg h1,if_neg (by simp[h1,ec])]
structure DE (B:Nat) (zs us:List aP) (j:Nat) (w:World) :Prop where
 len:us.length=zs.length
 done:∀i z,i<j->zs[i]? =some z->∃u,us[i]? =some u/\u.n=ka (ax zs) z.n/\gx B w u
 rest:∀i,j<=i->us[i]? =zs[i]?
theorem DE.next {C B g m:Nat}{zs us:List aP}{j:Nat}{w w':World}(h:DE B zs us j w)(k:Kp C B g m w w'){z u:aP}(hz:zs[j]? =some z)(hu:u.n=ka (ax zs) z.n)(hf:gx B w' u)(vs:List aP)(hvl:vs.length=us.length)(hvj:vs[j]? =some u)(hvo:∀i,i≠j->vs[i]? =us[i]?) :DE B zs vs (j+1) w':=by
 refine⟨hvl.trans h.len,fun i y hi hy=>?_,fun i hi=>by rw[hvo i (by omega)];exact h.rest i (by omega)⟩;by_cases e:i=j
 ·subst e;obtain rfl:z=y:=Option.some.inj (hz.symm.trans hy);exact⟨u,hvj,hu,hf⟩
 ·obtain⟨v,h1,h2,h3⟩:=h.done i y (by omega) hy;exact⟨v,(hvo i e).trans h1,h2,k.fr v h3⟩
theorem DE.end_ {B:Nat}{zs us:List aP}{w:World}(h:DE B zs us zs.length w) :ax us= (ax zs).map (ka (ax zs))/\∀u∈us,gx B w u/\∃z∈zs,u.n=ka (ax zs) z.n:=by
 constructor
 ·refine List.ext_getElem? fun i=>?_;by_cases hi:i<zs.length
  ·have hz:zs[i]? =some zs[i] :=List.getElem?_eq_getElem hi;obtain⟨u,h1,h2,_⟩:=h.done i _ hi hz;rw[eU h1,List.getElem?_map,eU hz,h2];rfl
  ·rw[List.getElem?_eq_none (by rw[aV,h.len];omega),List.getElem?_eq_none (by rw[List.length_map,aV];omega)]
 ·intro u hu;obtain⟨i,hi,rfl⟩:=List.getElem_of_mem hu;have hl:i<zs.length:=by rw[<- h.len];exact hi
  obtain⟨v,h1,h2,h3⟩:=h.done i _ hl (List.getElem?_eq_getElem hl);obtain rfl:us[i] =v:=Option.some.inj ((List.getElem?_eq_getElem hi).symm.trans h1);exact⟨h3,_,List.getElem_mem hl,h2⟩
theorem lP.fresh {B:Nat}{w w0:World}{z u:aP}{S:List Nd}(h:lP w0 z)(e:u.n=ka S z.n)(hf:gx B w u)(hn:num (cs S) z.n.c<=1759218604441) :lP w u:=by
 obtain⟨un,ua,uc⟩:=u;obtain rfl:un=ka S z.n:=e;obtain⟨b,cap,hv,hi,hc,hm,hl,hx⟩:=bj hf;injection hv with e1 _ e3;obtain rfl:ua=b:=e1;obtain rfl:uc=cap:=e3;refine⟨h.k,h.p,h.m,h.t,⟨rfl,hc,hm,h.d.2.2.2.1,?_⟩,h.l,?_⟩
 ·rcases Nat.eq_zero_or_pos z.n.d.length with h0|h0
  ·exact .inl h0
  ·obtain⟨b',off,rfl,hlt⟩:=hi.plain h0;exact .inr ⟨b',off,rfl,hlt,fun i hi'=>hi.get i hi'⟩
 ·have:=num_nonneg (cs S) z.n.c;show(Lit.int .i64 (num (cs S) z.n.c)).wf=true;have hn':=hn;have e1:IntKind.i64.min= -9223372036854775808:=by decide
  have e2:IntKind.i64.max=9223372036854775807:=by decide
  simp[Lit.wf];omega
theorem tN (l:List Int) : (cls l).length<=l.length:=by
 unfold cls
 have h:∀(t s:List Int),(dd s t).length<=s.length+t.length:=by
  intro t
  induction t with
  |nil=>intro s;exact aj
  |cons c t ih=>
   intro s;unfold dd;have:=ih (if c∈s then s else s++ [c]);rw[List.length_cons];by_cases e:c∈s
   ·rw[if_pos e]at this⊢;omega
   ·rw[if_neg e]at this⊢;rw[List.length_append,List.length_singleton]at this;omega
 have h3:=h (l.filter fun c=>decide (cR l c)) [];have h4: (l.filter fun c=>decide (cR l c)).length<=l.length:=List.length_filter_le _ _;simp only[List.length_nil,Nat.zero_add]at h3;omega
theorem qB {l:List Int}{n:Nat}(hn:n<=l.length) : (bC l n).length<=l.length:=by
 obtain⟨r,hr⟩:=qC (l:=l) hn aj;have h:=tN l;rw[<- lV,hr,List.length_append]at h;omega
theorem xQ (l:List Int)(c:Int) :num l c<=l.length:=by
 unfold num
 split
 ·rename_i h;have h1: (cls l).idxOf c< (cls l).length:=List.idxOf_lt_length_iff.mpr (jl.mpr h);have h2:=tN l;omega
 ·omega
end Tre
end Go.Proofs.YtcjagakckffkiaaGreatDoor
