import Derived.Test.YtcjagakckffkiaaGreatDoorS24
import Derived.OwnWalk
import Derived.Laws.CopyRow
set_option maxHeartbeats 16000000
set_option maxRecDepth 100000
namespace Go.Proofs.YtcjagakckffkiaaGreatDoor
namespace Flt
open Go.RowKit Go.Proofs.YtcjagakckffkiaaGreatDoor.Fit
abbrev AG:dh:=⟨⟨⟨0,emp,0,emp,0⟩,[]⟩,none,0⟩
theorem uZ (n:Nat) : (aF (List.replicate n AG)).toArray=madeCells (Value.agg (iR 0 emp 0 emp 0 none 0 0).toArray).cells (n*6) :=by
 apply Array.ext
 ·rw[size_madeCells,List.size_toArray,dp,List.length_replicate]
 ·intro i h1 h2;have hi:i<n*6:=by rw[size_madeCells]at h2;exact h2
  have hl:i/6<n:=by omega
  have:=fy (List.replicate n AG) (i/6) AG (by rw[List.getElem?_replicate,if_pos hl]) (i % 6) ((jA AG)[i % 6]'(by simp;omega)) (List.getElem?_eq_getElem _);rw[show i/6*6+i % 6=i by omega]at this;have h3: (aF (List.replicate n AG)).toArray[i]? =some ((jA AG)[i % 6]'(by simp;omega)) :=by simpa using this
  rw[Array.getElem?_eq_getElem h1]at h3;rw[Option.some.inj h3];simp only[madeCells,Array.getElem_map,Array.getElem_range];have:i % 6<6:=by omega
  rcases(show i % 6=0\/i % 6=1\/i % 6=2\/i % 6=3\/i % 6=4\/i % 6=5 by omega)with e|e|e|e|e|e<;>simp[e,Value.cells]
theorem AH (u:dh) :∀v∈jA u,v.oneCell'=true:=by simp[Value.oneCell']
theorem kT:∀(us:List dh) (i:Nat) (u:dh),i<us.length-> (aF us).take (i*6) ++jA u++ (aF us).drop (i*6+6) =aF (us.set i u)
 | [],i,u,h=>by simp at h
 |y::us,0,u,_=>by
  rw[dy,List.set_cons_zero,dy];simp
 |y::us,i+1,u,h=>by
  rw[dy,List.set_cons_succ,dy,<- kT us i u (by simpa using h)];have hl: (jA y).length=6:=by simp
  rw[show(i+1) *6= (jA y).length+i*6 by rw[hl];omega,List.take_append,Nat.add_assoc,List.drop_append];have e1: (jA y).take ((jA y).length+i*6) =jA y:=List.take_of_length_le (by omega);have e2: (jA y).drop ((jA y).length+ (i*6+6)) = [] :=List.drop_eq_nil_of_le (by omega);rw[e1,e2,Nat.add_sub_cancel_left,Nat.add_sub_cancel_left];simp
section
variable {P:Program} {w:World} {ops:Array Oper} {rest:List Oper} {o:Oper} {a:Act} {Q:Exit->Act->World->Prop}
theorem lC (hgd:o.guard=none)(l c:Operand)(t e:TypeId)(ho:o.op= .makeSlice t l c)(ht:P.underlying t=some (.slice e))(i0:TypeInfo)(hI:Hid (P.info? e=some i0/\i0.zero=some (.agg (iR 0 emp 0 emp 0 none 0 0).toArray)/\i0.size=6/\i0.bytes=80))
 (n:Nat)(hl:a.eval l= .int .i64 (n:Int))(hc:a.eval c= .int .i64 (n:Int))(hn:n<=1000000)
 (K:∀w',an w' w.heap.size e (aF (List.replicate n AG))->Below w.heap.size w w'->wpList P ops Q rest (a.put o.dst (.slice (some ⟨w.heap.size,0,none⟩) n n)) w') :wpList P ops Q (o::rest) a w:=by
 refine wpList_make_full w hgd l c t ho w.heap.size e i0 _ 6 ht hI.out.1 hI.out.2.1 hI.out.2.2.1 .i64 .i64 n n n hl hc rfl rfl (by rw[hI.out.2.2.2];omega) (by unfold maxLen;omega) aj fun w' h1 h2=>?_;refine K w' ?_ (au.grown h2 aj (fun _ h=>by cases h));obtain⟨h3,h4⟩:=h1;rcases h4 with⟨hv,_⟩|⟨g,cap,cur,hv,_,hh,_,_,hs,hx⟩
 ·cases hv
 ·injection hv with e1 _ e3;injection e1 with e1;injection e1 with e1 _;subst e1;subst e3;unfold an;rw[uZ]
  have e:cur=madeCells (Value.agg (iR 0 emp 0 emp 0 none 0 0).toArray).cells (n*6) :=by
   have h5:cur.toList.take (n*6) =cur.toList:=List.take_of_length_le (by simp[hs]);rw[h5]at hx;exact Array.ext' hx
  rw[<- e];exact hh
theorem eX (hgd:o.guard=none)(T:TypeId)(x y:Operand)(ho:o.op= .store T x y)(g q i:Nat)(hx:a.eval x= .pointer (some ⟨g,q,none⟩))(hq:q=i*6)
 (u:dh)(hy:a.eval y= .agg (jA u).toArray)(hs: (P.info? T).map (·.size) =some 6)(T':TypeId)(us:List dh)(hg:an w g T' (aF us))(hi:i<us.length)
 (K:∀w',an w' g T' (aF (us.set i u))->dU w w' g->wpList P ops Q rest (a.put o.dst undef) w') :wpList P ops Q (o::rest) a w:=by
 subst hq;refine wpList_plain hgd fun K' hK=>?_
 have hb:i*6+0+ (jA u).length<= (aF us).toArray.size:=by
  rw[List.size_toArray,dp];simp;omega
 have hst:=run_storeCells_at (P:=P) g (i*6) T' (jA u) 0 (aF us).toArray w hg hb (AH u)
 have e: ((aF us).toArray.toList.take (i*6+0) ++jA u++ (aF us).toArray.toList.drop (i*6+0+ (jA u).length)).toArray= (aF (us.set i u)).toArray:=by
  rw[<- kT us i u hi];simp
 rw[e]at hst
 cases hq:P.info? T with
 |none=>simp[hq]at hs
 |some j=>
  have hj:j.size=6:=by simpa [hq]using hs
  have hrun: (storeVar T ⟨g,i*6,none⟩ (.agg (jA u).toArray)).run P w= .ok () (w.setRow g (aF (us.set i u)).toArray) :=by
   have hsz: (Value.agg (jA u).toArray).cells.size=6:=rfl;simp only[storeVar,Sem.run_bind,sizeOf,typeInfo,hsz];simp[hq,hj,Value.cells];exact hst
  unfold Oper.wp execOp;simp only[ho,hx,hy,Instr.storeAt,Instr.sureAddr,Sem.run_bind,Sem.run_pure,Result.andThen_ok,hrun];have hT:cC w (w.setRow g (aF (us.set i u)).toArray) g:=⟨_,rfl⟩;exact hK _ _ (K _ (setRow_heap w g _ _ T' _ hg) ⟨fun hB=>hT.below hB,fun hk=>hT.other hk,hT.size⟩)
end
end Flt
namespace Flt
open Go.RowKit Go.Proofs.YtcjagakckffkiaaGreatDoor.Fit Tre
theorem Ef:fV Tryz.prog 70 6:=⟨⟨_,Tryz.underlying70⟩,by kernel_rfl⟩
theorem Fh: (Tryz.prog.info? 70).map (·.zero) =some (some (.agg (iR 0 emp 0 emp 0 none 0 0).toArray)) :=by kernel_rfl
theorem mK (k:Int)(p:ByteArray)(m:Int)(t:ByteArray)(s:Int)(a:Option Addr)(n cap:Nat) :∀v∈iR k p m t s a n cap,v.oneCell'=true:=by simp[Value.oneCell']
theorem vy (k:Int)(p:ByteArray)(m:Int)(t:ByteArray)(a:Option Addr)(n cap:Nat)(c:Int)(q:ByteArray)(w:World) :
 Calls Tryz.prog 55 #[.agg (cg k p m t a n cap c).toArray,.string q] w fun e w'=>e= .returned (.agg (iR 3 p m q 0 none 0 0).toArray)/\Below w.heap.size w w':=by
 have MZ:=aa Fh;have MO:=aa Ef;go_enter Tryz.func55,Tryz.ntmps55;go_wp2_with (first| (refine af rfl 77 _ rfl (cg k p m t a n cap c) rfl ?_;intro w1 g1 b1;have G1:=aa g1;have B1:=aa b1;clear g1 b1) | (refine ag rfl 70 rfl (iR 0 emp 0 emp 0 none 0 0) MZ.out ?_;intro w2 g2 b2;have G2:=aa g2;have K1:=aa (G1.out.below b2 G1.out.lt);have B2:=aa (ar B1.out b2);have c1:=K1.out.get 1 rfl;have c2:=K1.out.get 2 rfl;clear g2 b2) | (refine ae rfl 70 _ _ rfl w1.heap.size rfl (iR 3 p m q 0 none 0 0) (iR 0 emp 0 emp 0 none 0 0) rfl 70 G2.out MO.out.2 rfl (mK _ _ _ _ _ _ _ _) ?_;intro w3 g3 t3;have G3:=aa g3;have B3:=aa (B2.out.trans (t3.below B1.out.size));clear g3 t3));exact bodyPost_ret (eQ Tryz.results55 MO.out _ w1.heap.size rfl _ _ G3.out rfl) rfl ⟨rfl,B3.out⟩
theorem oH (k:Int)(p:ByteArray)(m:Int)(t:ByteArray)(a:Option Addr)(n cap:Nat)(c:Int)(w:World) :
 Calls Tryz.prog 56 #[.agg (cg k p m t a n cap c).toArray] w fun e w'=>e= .returned (.agg (iR k p m t n a n cap).toArray)/\Below w.heap.size w w':=by
 have MZ:=aa Fh;have MO:=aa Ef;have EZ:=aa ER;have EO:=aa CS;go_enter Tryz.func56,Tryz.ntmps56;go_wp2_with (first| (refine af rfl 77 _ rfl (cg k p m t a n cap c) rfl ?_;intro w1 g1 b1;have G1:=aa g1;have B1:=aa b1;clear g1 b1) | (refine ag rfl 70 rfl (iR 0 emp 0 emp 0 none 0 0) MZ.out ?_;intro w2 g2 b2;have G2:=aa g2;have N1:=aa G1.out.lt;have K1:=aa (G1.out.below b2 G1.out.lt);have B2:=aa (ar B1.out b2);have c0:=K1.out.get 0 rfl;have c1:=K1.out.get 1 rfl;have c2:=K1.out.get 2 rfl;have c3:=K1.out.get 3 rfl;have c4:=K1.out.get 4 rfl;clear g2 b2) | (refine ag rfl 68 rfl (cB 0 emp 0 emp 0) EZ.out ?_;intro w3 g3 b3;have G3:=aa g3;have N2:=aa G2.out.lt;have K2:=aa (K1.out.below b3 K1.out.lt);have G23:=aa (G2.out.below b3 G2.out.lt);have B3:=aa (ar B2.out b3);clear g3 b3 c0 c1 c2 c3 c4) | (refine ae rfl 68 _ _ rfl w2.heap.size rfl (cB k p m t n) (cB 0 emp 0 emp 0) rfl 68 G3.out EO.out.2 rfl (fR _ _ _ _ _) ?_;intro w4 g4 t4;have G4:=aa g4;have G24:=aa (G23.out.bH t4 (Nat.ne_of_lt N2.out));have K4:=aa (K2.out.bH t4 (Nat.ne_of_lt (Nat.lt_trans N1.out N2.out)));have B4:=aa (B3.out.trans (t4.below B2.out.size));have c4:=K4.out.get 4 rfl;have d0:=G4.out.get 0 rfl;have d1:=G4.out.get 1 rfl;have d2:=G4.out.get 2 rfl;have d3:=G4.out.get 3 rfl;have d4:=G4.out.get 4 rfl;clear g4 t4) | (refine ae rfl 70 _ _ rfl w1.heap.size rfl (iR k p m t n a n cap) (iR 0 emp 0 emp 0 none 0 0) rfl 70 G24.out MO.out.2 rfl (mK _ _ _ _ _ _ _ _) ?_;intro w5 g5 t5;have G5:=aa g5;have B5:=aa (B4.out.trans (t5.below B1.out.size));clear g5 t5));exact bodyPost_ret (eQ Tryz.results56 MO.out _ w1.heap.size rfl _ _ G5.out rfl) rfl ⟨rfl,B5.out⟩
end Flt
namespace Tre
open Go.RowKit Go.MapKept Go.Proofs.YtcjagakckffkiaaGreatDoor.Fit
theorem qP (a:Option Addr)(n cap:Nat)(ys:List aP)(w:World)(ha:bA w a n cap ys) :
 Calls Tryz.prog 87 #[.slice a n cap,.func (.func 88) #[] #[]] w fun e w'=>∃g N,e= .returned (.map (some g))/\dG w' g .string N (fk (pk ys) n)/\w.heap.size<=g/\Below w.heap.size w w':=by
 have HA:=aa ha;have NZ:=aa zH;have NO:=aa zF;have ZI:Hid ((Tryz.prog.info? 3).map (·.zero) =some (some (.int .i64 0))) :=by show _=_;kernel_rfl
 have UM:=aa Tryz.underlying151;have UK:=aa Tryz.underlying9;have hn:n<=maxLen:=Nat.le_trans ha.c ha.m;unfold maxLen at hn;clear ha;go_enter Tryz.func87,Tryz.ntmps87;go_wp2_with (first| (refine bo rfl _ rfl .string ?_;intro w1 m1 b1;have M1:=aa m1;have B1:=aa b1;have S1:=aa m1.lt;clear m1 b1));go_loopw [13] (fun i wr=>∃j N:Nat,i= .int .i64 j/\j<=n/\dG wr w.heap.size .string N (fk (pk ys) j)/\Below w.heap.size w wr) (fun i _=>n- (intOf i).toNat)
 case atStart=>exact⟨0,0,rfl,Nat.zero_le _,by rw[pA];exact M1.out,B1.out⟩
 case round=>
  obtain⟨j,N,rfl,hj,hM,hB⟩:=hrel;have HM:=aa hM;have HB:=aa hB;have W0:Hid (w.heap.size<wr.heap.size) :=hM.lt;clear hM hB;by_cases hjn:j<n
  ·obtain⟨b,off,y,rfl,hb,hy,hf,hat⟩:=HA.out.get j hjn;have hat':=hat.below HB.out hb;obtain⟨c0,c1,c2,c3,c4,c5⟩:=hat'.c hy;have e1:pk ys j= .string y.n.p:=by unfold pk;rw[fS hy]
   have E1:Hid (pk ys j= .string y.n.p) :=e1;clear hat hat' e1 hf hy;obtain⟨⟨k,p,m,t,d,c⟩,x,xc⟩:=y;obtain⟨L,hL⟩:=named d.length;have c4':wr.cell? ⟨b,off+j*6+4,none⟩=some (.slice x L xc) :=by rw[hL.out];exact c4
   clear c4 hL;have EJ:Hid (pk ys j= .string p) :=E1.out;clear E1;have j1: (j:Int) <n:=by omega
   have NB:Hid (b<w.heap.size) :=hb;clear hb hjn;go_wp2_with (first| (refine ag rfl 77 rfl (cg 0 emp 0 emp none 0 0 0) NZ.out ?_;intro w2 g2 b2;have G2:=aa g2;have M2:=aa (HM.out.below b2 HM.out.lt);have B2:=aa (HB.out.trans (b2.mono (Nat.le_of_lt W0.out)));have W2:=aa b2.size;clear g2 b2 c0 c1 c2 c3 c4' c5) | (refine ae rfl 77 _ _ rfl wr.heap.size rfl (cg k p m t x L xc c) (cg 0 emp 0 emp none 0 0 0) rfl 77 G2.out NO.out.2 rfl (dK _ _ _ _ _ _ _ _) ?_;intro w3 g3 t3;have G3:=aa g3;have M3:=aa (M2.out.block (t3.other (Nat.ne_of_lt W0.out)));have B3:=aa (B2.out.trans (t3.below (Nat.le_of_lt W0.out)));have W3:=aa (Nat.le_trans W2.out (Nat.le_of_eq t3.size.symm));have c0:=g3.get 0 rfl;have c1:=g3.get 1 rfl;have c2:=g3.get 2 rfl;have c3:=g3.get 3 rfl;have c4:=g3.get 4 rfl;have c5:=g3.get 5 rfl;clear g3 t3));refine(nf k p m t x L xc c w3).mono ?_;rintro e w4 ⟨rfl,b4⟩;have G4:=aa (G3.out.below b4 G3.out.lt);have M4:=aa (M3.out.below b4 M3.out.lt);have B4:=aa (ar B3.out b4);clear b4 c0 c1 c2 c3 c4 c5;obtain⟨q1,q2⟩:=bE (P:=Tryz.prog) (w:=w4) 151 9 3 UM.out .string UK.out (.int .i64 0) ZI.out w.heap.size N (.string p) (show IsKey .string (.string p)from trivial) (fk (pk ys) j) M4.out;clear q2
   cases hF:fk (pk ys) j (.string p)with
   |some z=>
    have FJ:Hid (fk (pk ys) (j+1) =fk (pk ys) j) :=xq (by rw[EJ.out,hF];rfl);rw[hF]at q1;simp only[Option.getD_some,Option.isSome_some]at q1;clear hF;go_wp2_with fail
    go_round
    case rel=>exact⟨j+1,N,by go_num,by omega,by rw[FJ.out];exact M4.out,B4.out⟩
    case measure=>simp[intOf];omega
   |none=>
    have FJ:Hid (fk (pk ys) (j+1) =rZ (fk (pk ys) j) (.string p) (.int .i64 j)) :=by show _=_;rw[xp (by rw[EJ.out,hF]),EJ.out]
    have HF:=aa hF;rw[hF]at q1;simp only[Option.getD_none,Option.isSome_none]at q1;clear hF;have c0:=G4.out.get 0 rfl;have c1:=G4.out.get 1 rfl;have c2:=G4.out.get 2 rfl;have c3:=G4.out.get 3 rfl;have c4:=G4.out.get 4 rfl;have c5:=G4.out.get 5 rfl;go_wp2_with fail;refine(nf k p m t x L xc c w4).mono ?_;rintro e w5 ⟨rfl,b5⟩;have M5:=aa (M4.out.below b5 M4.out.lt);have B5:=aa (ar B4.out b5);clear b5 c0 c1 c2 c3 c4 c5 q1;go_wp2_with (first| (refine bT rfl 151 _ _ _ rfl 9 3 UM.out .string UK.out w.heap.size rfl (.string p) rfl (show IsKey .string (.string p)from trivial) (.int .i64 j) rfl N _ M5.out ?_;intro w6 m6 t6;have M6:=aa m6;have B6:=aa (B5.out.trans (t6.below aj));clear m6 t6))
    go_round
    case rel=>exact⟨j+1,_,by go_num,by omega,by rw[FJ.out];exact M6.out,B6.out⟩
    case measure=>simp[intOf];omega
  ·obtain rfl:j=n:=by omega
   go_wp2;go_ret;exact⟨_,N,rfl,HM.out,aj,HB.out⟩
theorem qO (a:Option Addr)(n cap:Nat)(ys:List aP)(w:World)(ha:bA w a n cap ys) :
 Calls Tryz.prog 89 #[.slice a n cap,.func (.func 90) #[] #[]] w fun e w'=>∃g N,e= .returned (.map (some g))/\dG w' g (.int .i64) N (fk (ck ys) n)/\w.heap.size<=g/\Below w.heap.size w w':=by
 have HA:=aa ha;have NZ:=aa zH;have NO:=aa zF;have ZI:Hid ((Tryz.prog.info? 3).map (·.zero) =some (some (.int .i64 0))) :=by show _=_;kernel_rfl
 have UM:=aa Tryz.underlying171;have UK:=aa Tryz.underlying3;have hn:n<=maxLen:=Nat.le_trans ha.c ha.m;unfold maxLen at hn;clear ha;go_enter Tryz.func89,Tryz.ntmps89;go_wp2_with (first| (refine bo rfl _ rfl (.int .i64) ?_;intro w1 m1 b1;have M1:=aa m1;have B1:=aa b1;have S1:=aa m1.lt;clear m1 b1));go_loopw [13] (fun i wr=>∃j N:Nat,i= .int .i64 j/\j<=n/\dG wr w.heap.size (.int .i64) N (fk (ck ys) j)/\Below w.heap.size w wr) (fun i _=>n- (intOf i).toNat)
 case atStart=>exact⟨0,0,rfl,Nat.zero_le _,by rw[pA];exact M1.out,B1.out⟩
 case round=>
  obtain⟨j,N,rfl,hj,hM,hB⟩:=hrel;have HM:=aa hM;have HB:=aa hB;have W0:Hid (w.heap.size<wr.heap.size) :=hM.lt;clear hM hB;by_cases hjn:j<n
  ·obtain⟨b,off,y,rfl,hb,hy,hf,hat⟩:=HA.out.get j hjn;have hat':=hat.below HB.out hb;obtain⟨c0,c1,c2,c3,c4,c5⟩:=hat'.c hy;have e1:ck ys j= .int .i64 y.n.c:=by unfold ck;rw[fS hy]
   have E1:Hid (ck ys j= .int .i64 y.n.c) :=e1;clear hat hat' e1 hf hy;obtain⟨⟨k,p,m,t,d,c⟩,x,xc⟩:=y;obtain⟨L,hL⟩:=named d.length;have c4':wr.cell? ⟨b,off+j*6+4,none⟩=some (.slice x L xc) :=by rw[hL.out];exact c4
   clear c4 hL;have EJ:Hid (ck ys j= .int .i64 c) :=E1.out;clear E1;have j1: (j:Int) <n:=by omega
   have NB:Hid (b<w.heap.size) :=hb;clear hb hjn;go_wp2_with (first| (refine ag rfl 77 rfl (cg 0 emp 0 emp none 0 0 0) NZ.out ?_;intro w2 g2 b2;have G2:=aa g2;have M2:=aa (HM.out.below b2 HM.out.lt);have B2:=aa (HB.out.trans (b2.mono (Nat.le_of_lt W0.out)));have W2:=aa b2.size;clear g2 b2 c0 c1 c2 c3 c4' c5) | (refine ae rfl 77 _ _ rfl wr.heap.size rfl (cg k p m t x L xc c) (cg 0 emp 0 emp none 0 0 0) rfl 77 G2.out NO.out.2 rfl (dK _ _ _ _ _ _ _ _) ?_;intro w3 g3 t3;have G3:=aa g3;have M3:=aa (M2.out.block (t3.other (Nat.ne_of_lt W0.out)));have B3:=aa (B2.out.trans (t3.below (Nat.le_of_lt W0.out)));have W3:=aa (Nat.le_trans W2.out (Nat.le_of_eq t3.size.symm));have c0:=g3.get 0 rfl;have c1:=g3.get 1 rfl;have c2:=g3.get 2 rfl;have c3:=g3.get 3 rfl;have c4:=g3.get 4 rfl;have c5:=g3.get 5 rfl;clear g3 t3));refine(gU k p m t x L xc c w3).mono ?_;rintro e w4 ⟨rfl,b4⟩;have G4:=aa (G3.out.below b4 G3.out.lt);have M4:=aa (M3.out.below b4 M3.out.lt);have B4:=aa (ar B3.out b4);clear b4 c0 c1 c2 c3 c4 c5;obtain⟨q1,q2⟩:=bE (P:=Tryz.prog) (w:=w4) 171 3 3 UM.out (.int .i64) UK.out (.int .i64 0) ZI.out w.heap.size N (.int .i64 c) (show IsKey (.int .i64) (.int .i64 c)from rfl) (fk (ck ys) j) M4.out;clear q2
   cases hF:fk (ck ys) j (.int .i64 c)with
   |some z=>
    have FJ:Hid (fk (ck ys) (j+1) =fk (ck ys) j) :=xq (by rw[EJ.out,hF];rfl);rw[hF]at q1;simp only[Option.getD_some,Option.isSome_some]at q1;clear hF;go_wp2_with fail
    go_round
    case rel=>exact⟨j+1,N,by go_num,by omega,by rw[FJ.out];exact M4.out,B4.out⟩
    case measure=>simp[intOf];omega
   |none=>
    have FJ:Hid (fk (ck ys) (j+1) =rZ (fk (ck ys) j) (.int .i64 c) (.int .i64 j)) :=by show _=_;rw[xp (by rw[EJ.out,hF]),EJ.out]
    have HF:=aa hF;rw[hF]at q1;simp only[Option.getD_none,Option.isSome_none]at q1;clear hF;have c0:=G4.out.get 0 rfl;have c1:=G4.out.get 1 rfl;have c2:=G4.out.get 2 rfl;have c3:=G4.out.get 3 rfl;have c4:=G4.out.get 4 rfl;have c5:=G4.out.get 5 rfl;go_wp2_with fail;refine(gU k p m t x L xc c w4).mono ?_;rintro e w5 ⟨rfl,b5⟩;have M5:=aa (M4.out.below b5 M4.out.lt);have B5:=aa (ar B4.out b5);clear b5 c0 c1 c2 c3 c4 c5 q1;go_wp2_with (first| (refine bT rfl 171 _ _ _ rfl 3 3 UM.out (.int .i64) UK.out w.heap.size rfl (.int .i64 c) rfl (show IsKey (.int .i64) (.int .i64 c)from rfl) (.int .i64 j) rfl N _ M5.out ?_;intro w6 m6 t6;have M6:=aa m6;have B6:=aa (B5.out.trans (t6.below aj));clear m6 t6))
    go_round
    case rel=>exact⟨j+1,_,by go_num,by omega,by rw[FJ.out];exact M6.out,B6.out⟩
    case measure=>simp[intOf];omega
  ·obtain rfl:j=n:=by omega
   go_wp2;go_ret;exact⟨_,N,rfl,HM.out,aj,HB.out⟩
theorem xk (a:Option Addr)(n cap:Nat)(ys:List aP)(w:World)(ha:bA w a n cap ys) :
 Calls Tryz.prog 91 #[.slice a n cap] w fun e w'=>∃g N,e= .returned (.map (some g))/\dG w' g .string N (dk (kk ys) (pk ys) n)/\w.heap.size<=g/\Below w.heap.size w w':=by
 have HA:=aa ha;have NZ:=aa zH;have NO:=aa zF;have UM:=aa Tryz.underlying150;have UK:=aa Tryz.underlying9;have hn:n<=maxLen:=Nat.le_trans ha.c ha.m;unfold maxLen at hn;clear ha;go_enter Tryz.func91,Tryz.ntmps91;go_wp2_with (first| (refine bo rfl _ rfl .string ?_;intro w1 m1 b1;have M1:=aa m1;have B1:=aa b1;have S1:=aa m1.lt;clear m1 b1));go_loopw [9] (fun i wr=>∃j N:Nat,i= .int .i64 j/\j<=n/\dG wr w.heap.size .string N (dk (kk ys) (pk ys) j)/\Below w.heap.size w wr) (fun i _=>n- (intOf i).toNat)
 case atStart=>exact⟨0,0,rfl,Nat.zero_le _,by rw[Ab];exact M1.out,B1.out⟩
 case round=>
  obtain⟨j,N,rfl,hj,hM,hB⟩:=hrel;have HM:=aa hM;have HB:=aa hB;have W0:Hid (w.heap.size<wr.heap.size) :=hM.lt;clear hM hB;by_cases hjn:j<n
  ·obtain⟨b,off,y,rfl,hb,hy,hf,hat⟩:=HA.out.get j hjn;have hat':=hat.below HB.out hb;obtain⟨c0,c1,c2,c3,c4,c5⟩:=hat'.c hy;have E1:Hid (pk ys j= .string y.n.p/\kk ys j=y.n.k) :=⟨by unfold pk;rw[fS hy],by unfold kk;rw[fS hy]⟩;clear hat hat' hf hy;obtain⟨⟨k,p,m,t,d,c⟩,x,xc⟩:=y;obtain⟨L,hL⟩:=named d.length;have c4':wr.cell? ⟨b,off+j*6+4,none⟩=some (.slice x L xc) :=by rw[hL.out];exact c4
   clear c4 hL;have EP:Hid (pk ys j= .string p) :=E1.out.1;have EK:Hid (kk ys j=k) :=E1.out.2;clear E1;have j1: (j:Int) <n:=by omega
   have NB:Hid (b<w.heap.size) :=hb;clear hb hjn;by_cases hk:k=0
   ·subst hk;have FJ:Hid (dk (kk ys) (pk ys) (j+1) =rZ (dk (kk ys) (pk ys) j) (.string p) (.bool true)) :=by show _=_;rw[DW EK.out,EP.out]
    go_wp2_with (first| (refine ag rfl 77 rfl (cg 0 emp 0 emp none 0 0 0) NZ.out ?_;intro w2 g2 b2;have G2:=aa g2;have M2:=aa (HM.out.below b2 HM.out.lt);have B2:=aa (HB.out.trans (b2.mono (Nat.le_of_lt W0.out)));clear g2 b2 c0 c1 c2 c3 c4' c5) | (refine ae rfl 77 _ _ rfl wr.heap.size rfl (cg 0 p m t x L xc c) (cg 0 emp 0 emp none 0 0 0) rfl 77 G2.out NO.out.2 rfl (dK _ _ _ _ _ _ _ _) ?_;intro w3 g3 t3;have M3:=aa (M2.out.block (t3.other (Nat.ne_of_lt W0.out)));have B3:=aa (B2.out.trans (t3.below (Nat.le_of_lt W0.out)));have c0:=g3.get 0 rfl;have c1:=g3.get 1 rfl;clear g3 t3) | (refine bT rfl 150 _ _ _ rfl 9 4 UM.out .string UK.out w.heap.size rfl (.string p) rfl (show IsKey .string (.string p)from trivial) (.bool true) rfl N _ M3.out ?_;intro w6 m6 t6;have M6:=aa m6;have B6:=aa (B3.out.trans (t6.below aj));clear m6 t6))
    go_round
    case rel=>exact⟨j+1,_,by go_num,by omega,by rw[FJ.out];exact M6.out,B6.out⟩
    case measure=>simp[intOf];omega
   ·have nk: (k==0) =false:=by simpa using hk
    have FJ:Hid (dk (kk ys) (pk ys) (j+1) =dk (kk ys) (pk ys) j) :=CO (by rw[EK.out];exact hk);clear hk;go_wp2_with (first| (refine ag rfl 77 rfl (cg 0 emp 0 emp none 0 0 0) NZ.out ?_;intro w2 g2 b2;have G2:=aa g2;have M2:=aa (HM.out.below b2 HM.out.lt);have B2:=aa (HB.out.trans (b2.mono (Nat.le_of_lt W0.out)));clear g2 b2 c0 c1 c2 c3 c4' c5) | (refine ae rfl 77 _ _ rfl wr.heap.size rfl (cg k p m t x L xc c) (cg 0 emp 0 emp none 0 0 0) rfl 77 G2.out NO.out.2 rfl (dK _ _ _ _ _ _ _ _) ?_;intro w3 g3 t3;have M3:=aa (M2.out.block (t3.other (Nat.ne_of_lt W0.out)));have B3:=aa (B2.out.trans (t3.below (Nat.le_of_lt W0.out)));have c0:=g3.get 0 rfl;have c1:=g3.get 1 rfl;clear g3 t3))
    go_round
    case rel=>exact⟨j+1,N,by go_num,by omega,by rw[FJ.out];exact M3.out,B3.out⟩
    case measure=>simp[intOf];omega
  ·obtain rfl:j=n:=by omega
   go_wp2;go_ret;exact⟨_,N,rfl,HM.out,aj,HB.out⟩
end Tre
namespace Pnm
open Go.RowKit
theorem oO (s:ByteArray)(w:World)(hs:s.size<=maxLen) :Calls Tryz.prog 137 #[.string s] w fun e w'=>e= .returned (.int .i64 (dB (ad s)))/\w=w':=by
 unfold maxLen at hs;obtain⟨L,hL⟩:=named (dB (ad s));have HL:Hid (L=de (ad s) s.size) :=by show _=_;rw[hL.out];unfold dB;rw[ah]
 have HA:Hid (∀j (h:j<s.size),(ad s).getD j 0= (s[j].toNat:Int)) :=dC s;rw[<- hL.out];clear hL;go_enter Tryz.func137,Tryz.ntmps137;go_wp2;go_loop [3] (fun i=>∃v:Int,i= .int .i64 v/\ -1<=v/\v<s.size/\de (ad s) (v+1).toNat=L) (fun i=> (intOf i+1).toNat)
 case atStart=>exact⟨(s.size:Int) - 1,by go_num,by omega,by omega,by rw[HL.out];congr 1;omega⟩
 case round=>
  obtain⟨v,rfl,hv1,hv2,hv3⟩:=hrel;by_cases h0:0<=v
  ·obtain⟨k,rfl⟩:∃k:Nat,v=k:=⟨v.toNat,by omega⟩;have hk:k<s.size:=by omega
   have e1: ((k:Int) +1).toNat=k+1:=by omega
   rw[e1]at hv3;have hx:=HA.out k hk;by_cases hb: (s[k].toNat:Int) =47
   ·have hb': ((s[k].toNat:Int) ==47) =true:=by rw[hb];rfl
    have e2:L=k:=by rw[<- hv3];unfold de;rw[if_pos (by rw[hx];exact hb)]
    clear hx;go_wp2;go_ret;exact⟨rfl,rfl⟩
   ·have hb': ((s[k].toNat:Int) ==47) =false:=by simpa using hb
    have e2:de (ad s) k=L:=by rw[<- hv3];conv=>rhs;unfold de;rw[if_neg (by rw[hx];exact hb)]
    have E2:=aa e2;clear hx hv3 e2;go_wp2
    go_round
    case rel=>exact⟨(k:Int) - 1,by go_num,by omega,by omega,by rw[<- E2.out];congr 1;omega⟩
    case measure=>simp[intOf]
  ·obtain rfl:v= -1:=by omega
   have e2:L= -1:=by rw[<- hv3];rfl
   clear hv3;go_wp2;go_ret;exact⟨rfl,rfl⟩
theorem rM (s:ByteArray)(w:World)(hs:s.size<=maxLen) :Calls Tryz.prog 83 #[.string s] w fun e w'=>e= .returned (.string (strOfNums (dt (ad s))))/\w=w':=by
 have hb:=jy (ad s) (ad s).length;rw[ah]at hb;obtain⟨L,hL⟩:=named (dB (ad s));have hb': -1<=L/\L<s.size:=by rw[hL.out];unfold dB;rw[ah];exact hb
 obtain⟨b1,b2⟩:=hb';unfold maxLen at hs;have HS:=aa hs;clear hb;by_cases h0:L<0
 ·have e:dt (ad s) = [] :=by unfold dt;rw[<- hL.out,if_pos h0]
  rw[e];go_enter Tryz.func83,Tryz.ntmps83;go_wp2_with fail;refine(oO s w HS.out).mono ?_;rintro e w1 ⟨rfl,rfl⟩;rw[<- hL.out];go_wp2_with fail;go_ret;exact⟨rfl,rfl⟩
 ·obtain⟨k,rfl⟩:∃k:Nat,L=k:=⟨L.toNat,by omega⟩;have e:dt (ad s) = (ad s).take k:=by unfold dt;rw[<- hL.out,if_neg h0];rfl
  rw[e];go_enter Tryz.func83,Tryz.ntmps83;go_wp2_with fail;refine(oO s w HS.out).mono ?_;rintro e w1 ⟨rfl,rfl⟩;rw[<- hL.out];go_wp2_with fail;go_ret;exact⟨by show Ending.returned (.string (s.extract 0 k)) =_;rw[fg];rfl,rfl⟩
theorem rF (s t:ByteArray)(w:World)(hs:s.size<=maxLen) :Calls Tryz.prog 51 #[.string s,.string t] w fun e w'=>e= .returned (.int .i64 (aR (ad s) (ad t)))/\Below w.heap.size w w':=by
 unfold maxLen at hs;obtain⟨C,hC⟩:=named (aR (ad s) (ad t));rw[<- hC.out];have DS:Hid (∀j (h:j<s.size),(ad s).drop j= (s[j].toNat:Int) :: (ad s).drop (j+1)) :=qH s;have DT:Hid (∀j (h:j<t.size),(ad t).drop j= (t[j].toNat:Int) :: (ad t).drop (j+1)) :=qH t;go_enter Tryz.func51,Tryz.ntmps51;go_wp2_with fail;go_loopw [5] (fun i wr=>∃j:Nat,j<=s.size/\j<=t.size/\i= .int .i64 j/\aR ((ad s).drop j) ((ad t).drop j) =C/\Below w.heap.size w wr) (fun i _=>s.size+1- (intOf i).toNat)
 case atStart=>exact⟨0,Nat.zero_le _,Nat.zero_le _,rfl,hC.out.symm,au⟩
 case round=>
  obtain⟨j,hj1,hj2,rfl,hc,hb⟩:=hrel;have HC:=aa hc;have HB:=aa hb;clear hc hb;by_cases l1:j<s.size
  ·by_cases l2:j<t.size
   ·have m1: (j:Int) <s.size:=by omega
    have m2: (j:Int) <t.size:=by omega
    have d1:=DS.out j l1;have d2:=DT.out j l2;obtain⟨x,hx⟩:∃x:Int,((s[j].toNat:Nat) :Int) =x:=⟨_,rfl⟩;obtain⟨y,hy⟩:∃y:Int,((t[j].toNat:Nat) :Int) =y:=⟨_,rfl⟩;rw[hx]at d1;rw[hy]at d2;have hc:=HC.out;rw[d1,d2,aR]at hc;have HC2:=aa hc;clear d1 d2 hc;by_cases o1:x<y
    ·have e:Hid (C= -1) :=by show _=_;rw[<- HC2.out,if_pos o1]
     go_wp2_with fail;go_quiet (fail);go_wp2;go_ret;rw[e.out];exact⟨rfl,HB.out.trans (aS _ _ _)⟩
    ·by_cases o2:y<x
     ·have e:Hid (C=1) :=by show _=_;rw[<- HC2.out,if_neg o1,if_pos o2]
      go_wp2_with fail;go_quiet (fail);go_wp2;go_quiet (fail);go_wp2;go_ret;rw[e.out];exact⟨rfl,(HB.out.trans (aS _ _ _)).trans (aS _ _ _)⟩
     ·have e:Hid (aR ((ad s).drop (j+1)) ((ad t).drop (j+1)) =C) :=by show _=_;rw[<- HC2.out,if_neg o1,if_neg o2]
      go_wp2_with fail;go_quiet (fail);go_wp2;go_quiet (fail);go_wp2;go_roundw
      case rel=>exact⟨j+1,by omega,by omega,by go_num,e.out,HB.out.trans (aS _ _ _)⟩
      case measure=>simp[intOf];omega
   ·obtain rfl:j=t.size:=by omega
    have m1: ((t.size:Nat) :Int) <s.size:=by omega
    have m2:¬((s.size:Nat) :Int) <t.size:=by omega
    have e:Hid (C=1) :=by
     show _=_;rw[<- HC.out,jr,DS.out _ l1];rfl
    go_wp2;go_ret;rw[e.out];exact⟨rfl,HB.out⟩
  ·obtain rfl:j=s.size:=by omega
   by_cases l2:s.size<t.size
   ·have m1: ((s.size:Nat) :Int) <t.size:=by omega
    have e:Hid (C= -1) :=by
     show _=_;rw[<- HC.out,jr,DT.out _ l2];rfl
    go_wp2;go_ret;rw[e.out];exact⟨rfl,HB.out⟩
   ·have m1:¬((s.size:Nat) :Int) <t.size:=by omega
    have m2:¬((t.size:Nat) :Int) <s.size:=by omega
    have e:Hid (C=0) :=by
     show _=_;rw[<- HC.out,jr,show s.size=t.size by omega,jr];rfl
    go_wp2;go_ret;rw[e.out];exact⟨rfl,HB.out⟩
end Pnm
end Go.Proofs.YtcjagakckffkiaaGreatDoor
