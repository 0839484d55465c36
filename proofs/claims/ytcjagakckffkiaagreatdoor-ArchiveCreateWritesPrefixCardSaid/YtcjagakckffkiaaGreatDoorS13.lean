import Derived.Test.YtcjagakckffkiaaGreatDoorS12
import Derived.Test.YtcjagakckffkiaaGreatDoorS11
import Derived.Deep.CutRange
set_option maxHeartbeats 16000000
set_option maxRecDepth 100000
namespace Go.Proofs.YtcjagakckffkiaaGreatDoor
namespace Pnm
open Go.RowKit Go.Shelf
attribute [local go_sem] Oper.semAt_some
theorem kg {z:Int}(hz:z≠47) :∀zs:List Int,z∈zs↔∃c∈bZ zs,z∈c
 | [] =>by simp[bZ]
 |y::zs=>by
  have ih:=kg hz zs;unfold bZ;by_cases h:y=47
  ·rw[if_pos h,List.mem_cons,ih];constructor
   ·rintro(e|⟨c,hc,h1⟩)
    ·exact absurd (e.trans h) hz
    ·exact⟨c,List.mem_cons_of_mem _ hc,h1⟩
   ·rintro⟨c,hc,h1⟩;rcases List.mem_cons.1 hc with rfl|hc
    ·cases h1
    ·exact .inr ⟨c,hc,h1⟩
  ·rw[if_neg h]
   cases hc:bZ zs with
   |nil=>exact absurd hc (lW zs)
   |cons c cs=>
    rw[hc]at ih;simp only[List.mem_cons,exists_eq_or_imp]at ih⊢;rw[ih,or_assoc]
def jg (x:ByteArray) :Prop:=x= {data:= #[]}\/x= {data:= #[46]}\/x= {data:= #[46,46]}
instance (x:ByteArray) :Decidable (jg x) :=by unfold jg;infer_instance
theorem qz (x:ByteArray) :jg x↔(ad x= []\/ad x= [46]\/ad x= [46,46]) :=by
 unfold jg;constructor
 ·rintro(rfl|rfl|rfl)
  ·exact .inl rfl
  ·exact .inr (.inl rfl)
  ·exact .inr (.inr rfl)
 ·rintro(h|h|h)
  ·exact .inl (bQ (h.trans rfl))
  ·exact .inr (.inl (bQ (h.trans rfl)))
  ·exact .inr (.inr (bQ (h.trans rfl)))
theorem oA {zs:List Int}{c:List Int}(hc:c∈bZ zs){z:Int}(hz:z∈c) :z∈zs:=
 (kg (fun e=>nX zs c hc (e▸hz)) zs).2 ⟨c,hc,hz⟩
theorem oy {s:ByteArray}{c:List Int}(hc:c∈bZ (ad s)) :ad (strOfNums c) =c:=
 ak fun z hz=>by
  have:=oA hc hz;rw[cn,List.mem_map]at this;obtain⟨b,_,rfl⟩:=this;have:=b.toNat_lt;omega
theorem iU (s:ByteArray) :cu (ad s)↔(0:Int)∉ad s/\∀x∈dW s,¬jg x:=by
 constructor
 ·intro h;refine⟨fun h0=>?_,fun x hx=>?_⟩
  ·obtain⟨c,hc,hz⟩:= (kg (by decide) _).1 h0;exact(h c hc).2.2.2 hz
  ·obtain⟨c,hc,rfl⟩:=List.mem_map.1 hx;rw[qz,oy hc];obtain⟨h1,h2,h3,_⟩:=h c hc;rintro(e|e|e)
   ·exact h1 e
   ·exact h2 e
   ·exact h3 e
 ·rintro⟨h0,h⟩ c hc;have hb:=h _ (List.mem_map.2 ⟨c,hc,rfl⟩);rw[qz,oy hc]at hb;exact⟨fun e=>hb (.inl e),fun e=>hb (.inr (.inl e)),fun e=>hb (.inr (.inr e)),fun hz=>h0 (oA hc hz)⟩
theorem rb (s:ByteArray)(k:Int)(hk:Lib.indexByte s.data.toList 0=k) : (0<=k↔(0:Int)∈ad s) :=by
 rw[<- hk];exact xB s 0
theorem uD (tmps:Array Value)(W:World)(g:Nat)(z:Int)(hp:tmps.getD 2 undef= .pointer (some ⟨g,0,none⟩))(hc:W.cell? ⟨g,0,none⟩=some (.int .i64 z)) :
 (results Tryz.f140 tmps).run Tryz.prog W= .ok (.int .i64 z) W:=by
 have hp':tmps[2]?.getD undef= .pointer (some ⟨g,0,none⟩) :=by simpa using hp
 simp[results,Tryz.f140,hp',go_sem,hc]
theorem rA (s:ByteArray)(w:World)(h1: (65536:Int) <s.size) :Calls Tryz.prog 140 #[.string s] w fun e w'=>e= .returned (.int .i64 7)/\Below w.heap.size w w':=by
 go_enter Tryz.func140,Tryz.ntmps140;go_wp2;exact bodyPost_ret (uD _ _ w.heap.size 7 rfl (Boxed.new w 26 _).cell) rfl ⟨rfl,(Below.refl _ w).alloc aj _⟩
theorem rB (s:ByteArray)(w:World)(h1: (s.size:Int)<=65536)(hz: (0:Int)∈ad s) :Calls Tryz.prog 140 #[.string s] w fun e w'=>e= .returned (.int .i64 6)/\Below w.heap.size w w':=by
 obtain⟨k,hk⟩:=named (Lib.indexByte s.data.toList 0);have hk0:= (rb s k hk.out.symm).2 hz;go_enter Tryz.func140,Tryz.ntmps140;go_wp2_with fail;refine(Tryz.strings_IndexByte s 0 _).mono ?_;rintro e w1 ⟨rfl,rfl⟩;rw[show(0:Int).toNat.toUInt8=0 from rfl,<- hk.out];go_wp2;exact bodyPost_ret (uD _ _ w.heap.size 6 rfl (Boxed.new w 26 _).cell) rfl ⟨rfl,(Below.refl _ w).alloc aj _⟩
theorem qK (x:ByteArray) : (jg x->x.toList.isEmpty=true\/ (x.toList.isEmpty=false/\ (x.toList== [46]) =true)\/ (x.toList.isEmpty=false/\ (x.toList== [46]) =false/\ (x.toList== [46,46]) =true))/\
 (¬jg x->x.toList.isEmpty=false/\ (x.toList== [46]) =false/\ (x.toList== [46,46]) =false) :=by
 have e1: ({data:= #[]} :ByteArray).toList= [] :=by rw[ByteArray.toList_eq]
 have e2: ({data:= #[46]} :ByteArray).toList= [46] :=by rw[ByteArray.toList_eq]
 have e3: ({data:= #[46,46]} :ByteArray).toList= [46,46] :=by rw[ByteArray.toList_eq]
 constructor
 ·rintro(rfl|rfl|rfl)
  ·rw[e1];decide
  ·rw[e2];decide
  ·rw[e3];decide
 ·intro h;refine⟨cE fun e=>h (.inl e),?_,?_⟩
  ·rw[<- e2];exact cV fun e=>h (.inr (.inl e))
  ·rw[<- e3];exact cV fun e=>h (.inr (.inr e))
theorem vF (s:ByteArray)(w:World)(h1: (s.size:Int)<=65536)(hz:¬(0:Int)∈ad s)(R:Int)(hR0:Hid ((∀x∈dW s,¬jg x)->R=0))(hR6:Hid ((∃x∈dW s,jg x)->R=6)) :
 CallsIn Fence.wide 4 Tryz.prog 140 #[.string s] w fun e w'=>e= .returned (.int .i64 R)/\Below w.heap.size w w':=by
 obtain⟨k,hk⟩:=named (Lib.indexByte s.data.toList 0)
 have hk0:k<0:=by
  rcases Int.lt_or_le k 0 with h|h
  ·exact h
  ·exact absurd ((rb s k hk.out.symm).1 h) hz
 have hsz:s.size<=maxLen:=by unfold maxLen;omega
 refine callsIn_of_wp_marks Tryz.func140 rfl trivial ?_ rfl;simp only[Tryz.ntmps140,List.size_toArray,List.length_cons,List.length_nil,Nat.reduceAdd,Nat.reduceSub,Array.replicate_succ,Array.replicate_zero,List.push_toArray,List.append_toArray,List.nil_append,List.cons_append]
 gi_wp2_with (first| (refine⟨trivial,?_⟩;gi_at_call 189;refine(callsIn_wide.2 (Tryz.strings_IndexByte s 0 _)).mono ?_;rintro e w1 ⟨rfl,rfl⟩;rw[show(0:Int).toNat.toUInt8=0 from rfl,<- hk.out]) | (refine⟨trivial,?_⟩;gi_at_call 190;refine(zV Fence.wide 3 trivial rfl s _).mono ?_;rintro e w1 ⟨rfl,rfl⟩))
 have bR:=Boxed.new w 26 (.int .i64 0);have bN:=Boxed.new (w.alloc (.cells #[.int .i64 0] 26)) 9 (.string s);rw[World.size_alloc]at bN;have hB0:Below w.heap.size w ((w.alloc (.cells #[.int .i64 0] 26)).alloc (.cells #[.string s] 9)) := ((Below.refl _ w).alloc aj _).alloc (by simp) _
 refine wpIn_rangeFunc_ownG rfl (by decide) (gf:=214) (lb:= #[.pointer (some ⟨w.heap.size+1,0,none⟩)]) rfl trivial (enters_of Tryz.func214 (by kernel_rfl) rfl)
  (sr Fence.wide 3 trivial rfl (by decide) (w.heap.size+1) (w.heap.size+2) s hsz (by omega) _ (by simp) bN.cell) belowK_t (belowK_b (by simp)) au (fun _=>rfl)
  (fun pre W=> ((∀x∈pre,¬jg x)/\W.cell? ⟨w.heap.size,0,none⟩=some (.int .i64 0)/\W.frozen? ⟨w.heap.size,0,none⟩=false)/\Below w.heap.size w W)
  (fun c pre W=> (c= .ret/\ (∃x∈pre,jg x)/\W.cell? ⟨w.heap.size,0,none⟩=some (.int .i64 6))/\Below w.heap.size w W)
  (OwnFrom.and (Own.from (fun s A B row hs hg hr=>⟨hs.1,cell_kept hs.2.1 hg hr,(frozen_kept hs.2.1 hg hr).trans hs.2.2⟩) _) (ownFrom_below aj (by simp;omega)))
  (fun c=>OwnFrom.and (Own.from (fun s A B row hs hg hr=>⟨hs.1,hs.2.1,cell_kept hs.2.2 hg hr⟩) _) (ownFrom_below aj (by simp;omega)))
  ⟨⟨by simp,(bR.alloc _).cell,(bR.alloc _).frozen⟩,hB0⟩
  (fun x=> {tmps:= #[.string s,undef,.pointer (some ⟨w.heap.size,0,none⟩),.string x,.bool (decide ((65536:Int) <s.size)),.string s,.int .i64 s.size,.bool (decide ((65536:Int) <s.size)),.bool (decide (0<=k)),.string s,.int .i64 k,.bool (decide (0<=k)),.string s,.func (.func 214) #[] #[.pointer (some ⟨w.heap.size+1,0,none⟩)],.string x,undef,undef,undef,undef,undef,undef,undef,undef,undef,undef],defers:= []}) ?assign ?body ?done ?stop
 case assign=>
  intro l x W K hK
  gi_wp2
  exact hK
 case body=>
  rintro l pre x W ⟨⟨(HP:Hid _),hc,hf⟩,(HB:Hid _)⟩ _;by_cases hb:jg x
  ·have HX:Hid (∃y∈pre++ [x],jg y) :=⟨x,by simp,hb⟩;rcases(qK x).1 hb with m1|⟨m1,m2⟩|⟨m1,m2,m3⟩
   all_goals
    gi_wp2
    exact⟨(KeepsOthers.setCell _ _ _).from _,⟨rfl,HX.out,World.cell?_setCell_same' _ _ _ (by rw[hc];rfl)⟩,HB.out.setCell (p:=⟨w.heap.size,0,none⟩) aj _⟩
  ·obtain⟨m1,m2,m3⟩:= (qK x).2 hb
   have HX:Hid (∀y∈pre++ [x],¬jg y) :=fun y hy=>by
    rcases List.mem_append.1 hy with h|h
    ·exact HP.out y h
    ·rw[List.mem_singleton.1 h];exact hb
   gi_wp2
   exact⟨(KeepsOthers.refl _).from _,au,⟨HX.out,hc,hf⟩,HB.out⟩
 case done=>
  rintro D ys W hD rfl ⟨⟨hne,hc,hf⟩,hB⟩ hK;have e:=aa (hR0.out hne)
  gi_wp2
  have hK':= (KeepsOthers.setCell W ⟨w.heap.size,0,none⟩ (.int .i64 0)).same D _ hK rfl;refine⟨by simp,.inl ⟨_,_,rfl,run_takeDeferred hK',?_⟩⟩;have hc5:=cell_kept (World.cell?_setCell_same' W ⟨w.heap.size,0,none⟩ (.int .i64 0) (by rw[hc];rfl)) (grownBy_putObj' _ D (.deferred none)) (fun r e=>by cases e;exact⟨_,hK',rfl⟩);exact⟨_,uD _ _ w.heap.size 0 rfl hc5,by rw[e.out],(hB.setCell (p:=⟨w.heap.size,0,none⟩) aj _).trans (belowK_b (w:=w) aj _ D _ _ (by simp at hD;omega) hK' rfl rfl)⟩
 case stop=>
  rintro D c pre W hD hpre ⟨⟨rfl,⟨x,hx,hin⟩,hcr⟩,hB⟩ hK;have e:=aa (hR6.out ⟨x,hpre.subset hx,hin⟩)
  gi_wp2
  refine⟨by simp,.inl ⟨_,_,rfl,run_takeDeferred hK,?_⟩⟩;have hc5:=cell_kept hcr (grownBy_putObj' _ D (.deferred none)) (fun r e=>by cases e;exact⟨_,hK,rfl⟩);exact⟨_,uD _ _ w.heap.size 6 rfl hc5,by rw[e.out],hB.trans (belowK_b (w:=w) aj W D _ _ (by simp at hD;omega) hK rfl rfl)⟩
theorem ya (s:ByteArray)(w:World)(_:s.size<=maxLen) :Calls Tryz.prog 140 #[.string s] w fun e w'=>e= .returned (.int .i64 (nV (ad s)))/\Below w.heap.size w w':=by
 unfold nV;rw[ah];by_cases h1:65536<s.size
 ·rw[if_pos h1];exact rA s w (by omega)
 ·rw[if_neg h1];by_cases hz: (0:Int)∈ad s
  ·rw[if_neg (fun h=> ((iU s).1 h).1 hz)];exact rB s w (by omega) hz
  ·refine callsIn_wide.1 (vF s w (by omega) hz _ ?_ ?_)
   ·exact aa fun h=>if_pos ((iU s).2 ⟨hz,h⟩)
   ·exact aa fun⟨x,hx,hb⟩=>if_neg fun h=> ((iU s).1 h).2 x hx hb
end Pnm
namespace Fit
open Go.RowKit Pxr Pnm
theorem wO (t:ByteArray) :cA (aM,t) =eo t:=by unfold cA;rw[if_pos (.inl rfl)]
theorem rC (k:Int)(t:ByteArray)(w:World)(V:dS w)(ht:t.size<=maxLen) :Calls Tryz.prog 141 #[.int .i64 k,.string t] w fun e w'=>e= .returned (.int .i64 (oZ k t))/\Below w.heap.size w w':=by
 have H1:=aa (Pxr.eh aM t w V.v ht);have H2:=aa (Pnm.ya t w ht);rw[wO]at H1;obtain⟨R,hR⟩:=named (oZ k t);rw[<- hR.out];clear V ht;by_cases h2:k=2
 ·subst h2;have e:R=eo t:=by rw[hR.out];unfold oZ;rw[if_pos rfl]
  rw[<- e]at H1;clear hR e H2;go_enter Tryz.func141,Tryz.ntmps141;go_wp2_with fail;refine H1.out.mono ?_;rintro e w1 ⟨rfl,(B:Hid _)⟩;go_wp2;go_ret;exact⟨rfl,B.out⟩
 ·have n2: (k==2) =false:=by simpa using h2
  by_cases h3:k=3
  ·subst h3;have e:R=nV (ad t) :=by rw[hR.out];unfold oZ;rw[if_neg (by decide),if_pos rfl]
   rw[<- e]at H2;clear hR e H1;go_enter Tryz.func141,Tryz.ntmps141;go_wp2_with fail;refine H2.out.mono ?_;rintro e w1 ⟨rfl,(B:Hid _)⟩;go_wp2;go_ret;exact⟨rfl,B.out⟩
  ·have n3: (k==3) =false:=by simpa using h3
   have e:R=if t=emp then 0 else 2:=by rw[hR.out];unfold oZ;rw[if_neg h2,if_neg h3]
   clear hR H1 H2 h2 h3;by_cases ht:t=emp
   ·rw[if_pos ht]at e;subst e;subst ht;go_enter Tryz.func141,Tryz.ntmps141;go_wp2;go_ret;exact⟨rfl,au⟩
   ·rw[if_neg ht]at e;have hi:=cE ht;clear ht;subst e;go_enter Tryz.func141,Tryz.ntmps141;go_wp2;go_ret;exact⟨rfl,au⟩
theorem vI (k s:Int)(w:World) :Calls Tryz.prog 142 #[.int .i64 k,.int .i64 s] w fun e w'=>e= .returned (.int .i64 (nH k s))/\w=w':=by
 obtain⟨R,hR⟩:=named (nH k s);rw[<- hR.out];by_cases h1:k=1
 ·subst h1;have e:R=if s<0\/1099511627776<s then 3 else 0:=by rw[hR.out];unfold nH;rw[if_pos rfl]
  by_cases c1:s<0
  ·rw[if_pos (.inl c1)]at e;subst e;go_enter Tryz.func142,Tryz.ntmps142;go_wp2;go_ret;exact⟨rfl,rfl⟩
  ·by_cases c2:1099511627776<s
   ·rw[if_pos (.inr c2)]at e;subst e;go_enter Tryz.func142,Tryz.ntmps142;go_wp2;go_ret;exact⟨rfl,rfl⟩
   ·rw[if_neg (by omega)]at e;subst e;go_enter Tryz.func142,Tryz.ntmps142;go_wp2;go_ret;exact⟨rfl,rfl⟩
 ·have n1: (k==1) =false:=by simpa using h1
  have n1': (k !=1) =true:=by simpa using h1
  have e:R=if s=0 then 0 else 2:=by rw[hR.out];unfold nH;rw[if_neg h1]
  by_cases c1:s=0
  ·rw[if_pos c1]at e;subst e;subst c1;go_enter Tryz.func142,Tryz.ntmps142;go_wp2;go_ret;exact⟨rfl,rfl⟩
  ·rw[if_neg c1]at e;subst e;have n2: (s !=0) =true:=by simpa using c1
   go_enter Tryz.func142,Tryz.ntmps142;go_wp2;go_ret;exact⟨rfl,rfl⟩
theorem ni (k:Int)(p:ByteArray)(m:Int)(t:ByteArray)(s:Int)(w:World)(V:dS w)(hp:p.size<=maxLen)(ht:t.size<=maxLen) :
 Calls Tryz.prog 86 #[.agg (cB k p m t s).toArray] w fun e w'=>e= .returned (.int .i64 (dn ⟨k,p,m,t,s⟩))/\Below w.heap.size w w':=by
 obtain⟨R,hR⟩:=named (dn ⟨k,p,m,t,s⟩);obtain⟨E1,h1⟩:=named (nV (ad p));obtain⟨E2,h2⟩:=named (oZ k t);obtain⟨E3,h3⟩:=named (nH k s)
 have HR:Hid (R=if k<0\/4<=k then 8 else if E1≠0 then E1 else if m<0\/4095<m\/ (k=2/\m≠0)then 16 else if E2≠0 then E2 else E3) :=by
  show _=_;rw[hR.out,h1.out,h2.out,h3.out];rfl
 have C1:Hid (∀w',Calls Tryz.prog 140 #[.string p] w' fun e w''=>e= .returned (.int .i64 E1)/\Below w'.heap.size w' w'') :=fun w'=>by rw[h1.out];exact Pnm.ya p w' hp
 have C2:Hid (∀w',Below w.heap.size w w'->Calls Tryz.prog 141 #[.int .i64 k,.string t] w' fun e w''=>e= .returned (.int .i64 E2)/\Below w'.heap.size w' w'') :=fun w' hb=>by rw[h2.out];exact rC k t w' (V.go hb) ht
 have C3:Hid (∀w',Calls Tryz.prog 142 #[.int .i64 k,.int .i64 s] w' fun e w''=>e= .returned (.int .i64 E3)/\w'=w'') :=fun w'=>by rw[h3.out];exact vI k s w'
 rw[<- hR.out];clear hR h1 h2 h3 V hp ht;by_cases k0:k<0
 ·have e:=HR.out;rw[if_pos (.inl k0)]at e;subst e;clear HR C1 C2 C3;go_enter Tryz.func86,Tryz.ntmps86;go_wp2_with (first| (refine af rfl 68 _ rfl (cB k p m t s) rfl ?_;intro w1 g1 b1;have B1:=aa b1;have c0:=g1.get 0 rfl;clear g1 b1));go_ret;exact⟨rfl,B1.out⟩
 by_cases k4:4<=k
 ·have e:=HR.out;rw[if_pos (.inr k4)]at e;subst e;clear HR C1 C2 C3;go_enter Tryz.func86,Tryz.ntmps86;go_wp2_with (first| (refine af rfl 68 _ rfl (cB k p m t s) rfl ?_;intro w1 g1 b1;have B1:=aa b1;have c0:=g1.get 0 rfl;clear g1 b1));go_ret;exact⟨rfl,B1.out⟩
 go_enter Tryz.func86,Tryz.ntmps86;go_wp2_with (first| (refine af rfl 68 _ rfl (cB k p m t s) rfl ?_;intro w1 g1 b1;have H1:=aa g1;have B1:=aa b1;have c0:=g1.get 0 rfl;have c1:=g1.get 1 rfl;clear g1 b1));refine(C1.out w1).mono ?_;rintro e w2 ⟨rfl,b2⟩;have H2:=aa (H1.out.below b2 H1.out.lt);have B2:=aa (ar B1.out b2);clear b2 c0 c1;by_cases z1:E1=0
 ·subst z1
  have HR':Hid (R=if m<0\/4095<m\/ (k=2/\m≠0)then 16 else if E2≠0 then E2 else E3) :=by
   have e:=HR.out;rw[if_neg (by omega),if_neg (by simp)]at e;exact e
  clear HR;have c0:=H2.out.get 0 rfl;have c2:=H2.out.get 2 rfl;by_cases m0:m<0
  ·have e:=HR'.out;rw[if_pos (.inl m0)]at e;subst e;go_wp2_with fail;go_ret;exact⟨rfl,B2.out⟩
  by_cases m1:4095<m
  ·have e:=HR'.out;rw[if_pos (.inr (.inl m1))]at e;subst e;go_wp2_with fail;go_ret;exact⟨rfl,B2.out⟩
  by_cases k2:k=2/\m≠0
  ·have e:=HR'.out;rw[if_pos (.inr (.inr k2))]at e;subst e;obtain⟨rfl,hm⟩:=k2;have n2: (m !=0) =true:=by simpa using hm
   go_wp2_with fail;go_ret;exact⟨rfl,B2.out⟩
  have HR2:Hid (R=if E2≠0 then E2 else E3) :=by
   have e:=HR'.out;rw[if_neg (by omega)]at e;exact e
  clear HR';have c3:=H2.out.get 3 rfl
  have hk: (k==2) =false\/ (k=2/\m=0) :=by
   by_cases h:k=2
   ·exact .inr ⟨h,by omega⟩
   ·exact .inl (by simpa using h)
  clear C1 k0 k4 k2;rcases hk with n2|⟨rfl,rfl⟩
  all_goals
   go_wp2_with fail;refine(C2.out w2 B2.out).mono ?_;rintro e w3 ⟨rfl,b3⟩;have H3:=aa (H2.out.below b3 H2.out.lt);have B3:=aa (ar B2.out b3);clear b3 c0 c2 c3;by_cases z2:E2=0
   ·subst z2;have e:=HR2.out;rw[if_neg (by simp)]at e;subst e;have c0:=H3.out.get 0 rfl;have c4:=H3.out.get 4 rfl;go_wp2_with fail;refine(C3.out w3).mono ?_;rintro e w4 ⟨rfl,rfl⟩;go_wp2;go_ret;exact⟨rfl,B3.out⟩
   ·have e:=HR2.out;rw[if_pos z2]at e;subst e;have n3: (R !=0) =true:=by simpa using z2
    clear HR2 z2;go_wp2_with fail;go_ret;exact⟨rfl,B3.out⟩
 ·have e:=HR.out;rw[if_neg (by omega),if_pos z1]at e;subst e;have n1: (R !=0) =true:=by simpa using z1
  clear HR z1;go_wp2_with fail;go_ret;exact⟨rfl,B2.out⟩
end Fit
namespace Pnm
open Go.RowKit
theorem Cp (i n:Int)(w:World)(hi0:0<=i)(hin:i<n)(hn:n<=9223372036854775807)(B:Bool)(hB:B= (decide (1<=i) &&decide (i<=155) &&decide (1<=n- i- 1) &&decide (n- i- 1<=100))) :Calls Tryz.prog 196 #[.int .i64 i,.int .i64 n] w fun e w'=>e= .returned (.bool B)/\w=w':=by
 have w1:IntKind.i64.wrap (n- i) =n- i:=gw (by omega) (by omega);have w2:IntKind.i64.wrap (n- i- 1) =n- i- 1:=gw (by omega) (by omega);by_cases c1:1<=i
 ·by_cases c2:i<=155
  ·by_cases c3:1<=n- i- 1
   ·have e:=aa (show B=decide (n- i- 1<=100) by rw[hB,decide_eq_true c1,decide_eq_true c2,decide_eq_true c3];rfl);clear hB;go_enter Tryz.func196,Tryz.ntmps196;go_wp2;go_ret;exact⟨by rw[e.out];rfl,rfl⟩
   ·have e:=aa (show B=false by rw[hB,decide_eq_true c1,decide_eq_true c2,decide_eq_false c3];rfl);clear hB;go_enter Tryz.func196,Tryz.ntmps196;go_wp2;go_ret;exact⟨by rw[e.out];rfl,rfl⟩
  ·have e:=aa (show B=false by rw[hB,decide_eq_true c1,decide_eq_false c2];rfl);clear hB;go_enter Tryz.func196,Tryz.ntmps196;go_wp2;go_ret;exact⟨by rw[e.out];rfl,rfl⟩
 ·have e:=aa (show B=false by rw[hB,decide_eq_false c1];rfl);clear hB;go_enter Tryz.func196,Tryz.ntmps196;go_wp2;go_ret;exact⟨by rw[e.out];rfl,rfl⟩
theorem Dq (s:ByteArray)(w:World)(hs:s.size<=maxLen) :Calls Tryz.prog 146 #[.string s] w fun e w'=>e= .returned (.tuple #[.string (strOfNums (dO (ad s))),.string (strOfNums (dN (ad s))),.bool (eV (ad s))])/\Below w.heap.size w w':=by
 unfold maxLen at hs;obtain⟨P,hP⟩:=named (strOfNums (dO (ad s)));obtain⟨N,hN⟩:=named (strOfNums (dN (ad s)));obtain⟨B,hB⟩:=named (eV (ad s));rw[<- hP.out,<- hN.out,<- hB.out];have NL:=aa (ah s);by_cases h1:s.size<=100
 ·have h1': (s.size:Int)<=100:=by omega
  have e1:Hid (P= {data:= #[]}/\N=s/\B=true) :=by
   show _/\_/\_;have hl: (ad s).length<=100:=by rw[NL.out];exact h1
   refine⟨?_,?_,?_⟩
   ·rw[hP.out];unfold dO;rw[if_pos hl];rfl
   ·rw[hN.out];unfold dN;rw[if_pos hl,aJ]
   ·rw[hB.out];unfold eV;rw[if_pos hl]
  go_enter Tryz.func146,Tryz.ntmps146;go_wp2;go_ret3;obtain⟨q1,q2,q3⟩:=e1.out;rw[q1,q2,q3];exact⟨rfl,au⟩
 ·have h1':¬(s.size:Int)<=100:=by omega
  have hl:¬(ad s).length<=100:=by rw[NL.out];exact h1
  have FN:Hid ((∀k,¬fm (ad s) k)->P= {data:= #[]}/\N= {data:= #[]}/\B=false) :=fun h=>by
   have e:=uF h;refine⟨?_,?_,?_⟩
   ·rw[hP.out];unfold dO;rw[if_neg hl,e];rfl
   ·rw[hN.out];unfold dN;rw[if_neg hl,e];rfl
   ·rw[hB.out];unfold eV;rw[if_neg hl,e];rfl
  have FS:Hid (∀j,fm (ad s) j-> (∀k,k<j->¬fm (ad s) k)->P=s.extract 0 j/\N=s.extract (j+1) s.size/\B=true) :=fun j h h'=>by
   have e:=nC h h';refine⟨?_,?_,?_⟩
   ·rw[hP.out];unfold dO;rw[if_neg hl,e,fg];rfl
   ·rw[hN.out];unfold dN;rw[if_neg hl,e,fg,List.take_of_length_le (by rw[List.length_drop,NL.out];exact aj)]
   ·rw[hB.out];unfold eV;rw[if_neg hl,e];rfl
  have HA:Hid (∀j (h:j<s.size),(ad s).getD j 0= (s[j].toNat:Int)) :=dC s;go_enter Tryz.func146,Tryz.ntmps146;go_wp2_with fail;go_loopw [12] (fun i wr=>∃j:Nat,j<=s.size/\i= .int .i64 j/\ (∀k,k<j->¬fm (ad s) k)/\wr=w) (fun i _=>s.size+1- (intOf i).toNat)
  case atStart=>exact⟨0,Nat.zero_le _,rfl,fun k hk h=>by omega,rfl⟩
  case round=>
   obtain⟨j,hj3,rfl,(HNO:Hid _),rfl⟩:=hrel;by_cases l1:j<s.size
   ·have m1: (j:Int) <s.size:=by omega
    have hx:=HA.out j l1;obtain⟨x,hxe⟩:∃x:Int,((s[j].toNat:Nat) :Int) =x:=⟨_,rfl⟩;rw[hxe]at hx;by_cases hsf:fm (ad s) j
    ·obtain⟨q1,q2,q3⟩:=FS.out j hsf HNO.out;obtain⟨a1,a2,a3,a4,a5⟩:=hsf;rw[NL.out]at a3 a4;have m3: (x==47) =true:=by rw[<- hx,a5];rfl
     have m6: (j:Int) +1<=s.size:=by omega
     have Q:=aa (And.intro q1 (And.intro q2 q3));have S:=aa (Cp j s.size wr (by omega) m1 (by omega) true (by rw[decide_eq_true (show(1:Int)<=j by omega),decide_eq_true (show(j:Int)<=155 by omega),decide_eq_true (show(1:Int)<= (s.size:Int) - j- 1 by omega),decide_eq_true (show(s.size:Int) - j- 1<=100 by omega)];rfl));go_wp2_with fail;refine S.out.mono ?_;rintro e w1 ⟨rfl,rfl⟩;go_wp2_with fail;go_quiet (fail);go_wp2;go_ret3;obtain⟨q1,q2,q3⟩:=Q.out;rw[q1,q2,q3];exact⟨rfl,aS _ _ _⟩
    ·have HN1:Hid (∀k,k<j+1->¬fm (ad s) k) :=fun k hk=>by
      by_cases e:k=j
      ·rw[e];exact hsf
      ·exact HNO.out k (by omega)
     by_cases c1:x=47
     ·have m3: (x==47) =true:=by rw[c1];rfl
      have S:=aa (Cp j s.size wr (by omega) m1 (by omega) false (by
       symm
       rcases Bool.eq_false_or_eq_true (decide ((1:Int)<=j) &&decide ((j:Int)<=155) &&decide ((1:Int)<= (s.size:Int) - j- 1) &&decide ((s.size:Int) - j- 1<=100))with h|h
       ·exfalso;simp only[Bool.and_eq_true,decide_eq_true_eq]at h;exact hsf ⟨by omega,by omega,by rw[NL.out];omega,by rw[NL.out];omega,by rw[hx];exact c1⟩
       ·exact h))
      go_wp2_with fail;refine S.out.mono ?_;rintro e w1 ⟨rfl,rfl⟩;go_wp2_with fail;go_roundw
      case rel=>exact⟨j+1,by omega,by go_num,HN1.out,trivial⟩
      case measure=>simp[intOf];omega
     ·have m3: (x==47) =false:=by simpa using c1
      go_wp2_with fail;go_roundw
      case rel=>exact⟨j+1,by omega,by go_num,HN1.out,trivial⟩
      case measure=>simp[intOf];omega
   ·obtain rfl:j=s.size:=by omega
    have e1:=aa (FN.out fun k hk=>if h:k<s.size then HNO.out k h hk else by have:=hk.2.2.1;rw[NL.out]at this;omega);go_wp2;go_ret3;obtain⟨q1,q2,q3⟩:=e1.out;rw[q1,q2,q3];exact⟨rfl,au⟩
end Pnm
namespace Fit
open Go.RowKit Pxr Pnm
def oa (e:fM) :Hd:=if dn e=0 then eZ e else⟨0,emp,emp,emp,0,0⟩
def yj (e:fM) :List Rec:=if dn e=0 then jK e else []
abbrev nS (e:fM)(w:World) :Ending->World->Prop:=jd (oa e).T (oa e).nm (oa e).pf (oa e).lk (oa e).md (oa e).sz (yj e) (dn e) w
theorem qf {p:ByteArray}(h:¬eV (ad p) =true) :strOfNums (dO (ad p)) =emp/\strOfNums (dN (ad p)) =emp:=by
 rcases kE p with⟨a,_⟩|⟨a,_⟩|⟨_,a,b,_⟩
 ·exact absurd a h
 ·exact absurd a h
 ·rw[a,b];exact⟨rfl,rfl⟩
theorem gE {e:fM}(h:dn e=0) :oa e=eZ e/\yj e=jK e:=by unfold oa yj;rw[if_pos h,if_pos h];exact⟨rfl,rfl⟩
theorem iA {e:fM}(h:dn e≠0) :oa e=⟨0,emp,emp,emp,0,0⟩/\yj e= [] :=by unfold oa yj;rw[if_neg h,if_neg h];exact⟨rfl,rfl⟩
theorem xv (n:Nat)(hn:n<=9223372036854775807)(w:World)(V:gS w) :Calls Tryz.prog 147 #[.int .i64 (n:Int),.int .i64 10] w fun e w'=>e= .returned (.string (strOfNums (cy n)))/\Below w.heap.size w w':=by
 refine(Tryz.strconv_FormatInt_10 (n:Int) (by omega) (by omega) w V.BJ).mono ?_;rintro e w' ⟨rfl,k,os,rfl⟩;exact⟨by rw[Lib.itoa_nonneg,nE],mz w k os aj⟩
theorem Bh (k:Int)(p:ByteArray)(m:Int)(t:ByteArray)(s:Int)(w:World)(E:Int)(h0: (E !=0) =true)
 (C1:Hid (∀w',Below w.heap.size w w'->Calls Tryz.prog 86 #[.agg (cB k p m t s).toArray] w' fun e w''=>e= .returned (.int .i64 E)/\Below w'.heap.size w' w'')) :
 Calls Tryz.prog 99 #[.agg (cB k p m t s).toArray] w (jd 0 emp emp emp 0 0 [] E w) :=by
 have HO:=aa Av;have HZ:=aa Fe;go_enter Tryz.func99,Tryz.ntmps99;go_wp2_with (first| (refine af rfl 68 _ rfl (cB k p m t s) rfl ?_;intro w1 g1 b1;have H1:=aa g1;have B1:=aa b1;clear g1 b1) | (refine ag rfl 130 rfl Ust.bX HZ.out ?_;intro w2 g2 b2;have R2:=aa g2;have E2:=aa (H1.out.below b2 H1.out.lt);have B2:=aa (ar B1.out b2);have c0:=E2.out.get 0 rfl;have c1:=E2.out.get 1 rfl;have c2:=E2.out.get 2 rfl;have c3:=E2.out.get 3 rfl;have c4:=E2.out.get 4 rfl;clear g2 b2));refine(C1.out w2 B2.out).mono ?_;rintro e w3 ⟨rfl,b3⟩;have R3:=aa (R2.out.below b3 R2.out.lt);have B3:=aa (ar B2.out b3);have N1:Hid (w.heap.size<w1.heap.size) :=H1.out.lt;clear b3 c0 c1 c2 c3 c4;go_wp2_with (first| (refine ae rfl 130 _ _ rfl w1.heap.size rfl Ust.bX Ust.bX rfl 130 R3.out HO.out.2 rfl (bL _ _ _ _ _ _) ?_;intro w4 g4 t4;have R4:=aa g4;have T4:=aa t4;clear g4 t4));exact bodyPost_ret (az Tryz.results99 HO.out _ w1.heap.size rfl _ Ust.bX R4.out rfl) rfl (.nil (B3.out.trans (T4.out.below (Nat.le_of_lt N1.out))))
theorem oL (e:fM)(w:World)(V:dS w)(hp:e.p.size<=maxLen)(ht:e.t.size<=maxLen) :Calls Tryz.prog 99 #[.agg (cB e.k e.p e.m e.t e.s).toArray] w (nS e w) :=by
 obtain⟨k,p,m,t,s⟩:=e;dsimp only at hp ht⊢;have C1:Hid (∀w',Below w.heap.size w w'->Calls Tryz.prog 86 #[.agg (cB k p m t s).toArray] w' fun e w''=>e= .returned (.int .i64 (dn ⟨k,p,m,t,s⟩))/\Below w'.heap.size w' w'') :=fun w' hb=>ni k p m t s w' (V.go hb) hp ht;by_cases h:dn ⟨k,p,m,t,s⟩=0
 ·have hok:=fw.1 h;rw[h]at C1;obtain⟨e1,e2⟩:=gE h;have KG:Hid (∀w',Below w.heap.size w w'->w'.cell? ⟨0,k.toNat,none⟩=some (.int .u8 (we k))) :=fun w' hb=> (V.go hb).ty hok.k0 hok.k4;have C2:Hid (∀w',Calls Tryz.prog 146 #[.string p] w' fun e w''=>e= .returned (.tuple #[.string (strOfNums (dO (ad p))),.string (strOfNums (dN (ad p))),.bool (eV (ad p))])/\Below w'.heap.size w' w'') :=fun w'=>Pnm.Dq p w' hp
  have C3:Hid (∀w',Below w.heap.size w w'->Calls Tryz.prog 147 #[.int .i64 s,.int .i64 10] w' fun e w''=>e= .returned (.string (strOfNums (cy s.toNat)))/\Below w'.heap.size w' w'') :=fun w' hb=>by
   obtain⟨s0,s1,_⟩:=gr hok.sz;have:=xv s.toNat (by dsimp only at s0 s1;omega) w' (V.go hb).v
   rwa [show((s.toNat:Nat) :Int) =s by dsimp only at s0;omega]at this
  unfold nS;rw[e1,e2,h];unfold eZ jK Ep En Eo;dsimp only;exact Bg k p m t s w _ _ _ _ _ (eV (ad p)) _ _ hok.k0 hok.k4 KG C1 C2 C3 (fun h=>⟨(qf (by rw[h];decide)).2,(qf (by rw[h];decide)).1⟩) rfl rfl rfl
 ·obtain⟨e1,e2⟩:=iA h;unfold nS;rw[e1,e2];exact Bh k p m t s w _ (by simpa using h) C1
end Fit
end Go.Proofs.YtcjagakckffkiaaGreatDoor
namespace Go.Proofs.YtcjagakckffkiaaGreatDoor
open Go.RowKit
theorem Out.late {lo hi g:Nat}{a b c:World}(h:Out lo hi a b)(ht:cC b c g)(hg:a.heap.size<=g) :Out lo hi a c:=by
 have hs:=ht.size;have ho:=fun k=>ht.other (k:=k);obtain⟨cs,rfl⟩:=ht;exact⟨h.os,h.tape,h.output,by have:=h.size;omega,fun k hk hj=> (ho k (by omega)).trans (h.block k hk hj)⟩
theorem Out.sN {lo hi B:Nat}{a b c:World}(h:Out lo hi a b)(hb:Below B b c)(hB:a.heap.size<=B) :Out lo hi a c:=
 ⟨hb.os.trans h.os,hb.tape.trans h.tape,hb.output.trans h.output,Nat.le_trans h.size hb.size,fun k hk hj=> (hb.block k (Nat.lt_of_lt_of_le hk hB)).trans (h.block k hk hj)⟩
end Go.Proofs.YtcjagakckffkiaaGreatDoor
namespace Go.Proofs.YtcjagakckffkiaaGreatDoor.fQ
open Go.RowKit Go.Proofs.YtcjagakckffkiaaGreatDoor.Fit Pxr Pnm
end Go.Proofs.YtcjagakckffkiaaGreatDoor.fQ
namespace Go.Proofs.YtcjagakckffkiaaGreatDoor
namespace fQ
open Go.Lib Go.RowKit Go.Proofs.YtcjagakckffkiaaGreatDoor.Fit Pxr Pnm
def hz:Hd:=⟨0,emp,emp,emp,0,0⟩
section
variable {Z:List Int} {E:Int} {o:Nat} {h:Hd}
end
end fQ
end Go.Proofs.YtcjagakckffkiaaGreatDoor
