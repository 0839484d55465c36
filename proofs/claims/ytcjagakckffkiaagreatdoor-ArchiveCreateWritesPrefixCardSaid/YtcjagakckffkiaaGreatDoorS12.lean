import Derived.Test.YtcjagakckffkiaaGreatDoorS7
import Derived.RangeFuncNested
import Derived.RangeFuncBound
import Derived.RangeFuncCalls
import Derived.RangeFuncLeaves
import Derived.Shelf.Abstract
import Derived.Shelf.RegionOpen
import Derived.OwnWalkIn
import Derived.TacticsInMore
import Derived.LoopNIn
import Derived.LoopIn
set_option maxHeartbeats 16000000
set_option maxRecDepth 100000
namespace Go.Proofs.YtcjagakckffkiaaGreatDoor
namespace Fit
open Go.RowKit Pxr
structure dS (w:World) :Prop where
 v:gS w
 FF:Lib.TabIs Tryz.prog w "paxtar/fit.types" .u8 [53,48,50,49]
structure ot (w:World) :Prop where
 f:dS w
 Hy:∃tp p,w.var? Tryz.prog "strconv.ErrSyntax"=some #[.iface tp p]
 Hx:∃tp p,w.var? Tryz.prog "strconv.ErrRange"=some #[.iface tp p]
theorem wg {w w':World}{B g:Nat}{n:String}{cs:Array Value}(hg:Tryz.prog.globalNamed n=some g)(h:w.var? Tryz.prog n=some cs)(hb:Below B w w')(hB:w.heap.size<=B) :w'.var? Tryz.prog n=some cs:=by
 unfold World.var? at h⊢;rw[hg]at h⊢
 have hl:g<w.heap.size:=by
  rcases Nat.lt_or_ge g w.heap.size with h'|h'
  ·exact h'
  ·simp[Array.getElem?_eq_none h']at h
 rw[<- h];simp only[Option.bind_some];rw[hb.block g (by omega)]
theorem xy:Tryz.prog.globalNamed "paxtar/fit.types"=some 0:=by kernel_rfl
theorem Ar:Tryz.prog.globalNamed "strconv.ErrSyntax"=some 4:=by kernel_rfl
theorem Aq:Tryz.prog.globalNamed "strconv.ErrRange"=some 5:=by kernel_rfl
theorem dS.below {w w':World}{B:Nat}(h:dS w)(hb:Below B w w')(hB:w.heap.size<=B) :dS w':=
 ⟨h.v.below hb hB,wg xy h.FF hb hB⟩
theorem dS.go {w w':World}(h:dS w)(hb:Below w.heap.size w w') :dS w':=h.below hb aj
theorem dS.ty {w:World}(h:dS w){k:Int}(h0:0<=k)(h4:k<4) :w.cell? ⟨0,k.toNat,none⟩=some (.int .u8 (we k)) :=by
 have hc:=h.FF.cell xy;rcases(show k=0\/k=1\/k=2\/k=3 by omega)with rfl|rfl|rfl|rfl
 ·exact hc 0 (by decide)
 ·exact hc 1 (by decide)
 ·exact hc 2 (by decide)
 ·exact hc 3 (by decide)
theorem jx {W:World}{rest:List (String×DataW Unit)}(h2:laidMet Tryz.prog (("paxtar/paxrec.keys",Rows.laid_paxtar_paxrec_keys) ::rest) W) :
 W.cell? ⟨2,0,none⟩=some (.string aM)/\W.cell? ⟨2,1,none⟩=some (.string aG)/\W.cell? ⟨2,2,none⟩=some (.string aL) :=by
 obtain⟨ps,⟨g',t',cs,fuel,p,q,hg',ht',hvar,hd,_,_⟩,_⟩:=h2;obtain rfl:=Option.some.inj ((by kernel_rfl:Tryz.prog.globalNamed "paxtar/paxrec.keys"=some 2).symm.trans hg');obtain rfl:=Option.some.inj ((by kernel_rfl: (Tryz.prog.globals[2]?).map (·.type) =some 301).symm.trans ht');have hcs:=nU (zs:= [[108,105,110,107,112,97,116,104],[112,97,116,104],[115,105,122,101]]) Tryz.underlying301 Tryz.underlying9 (by kernel_rfl) (by kernel_rfl) hd;have hcells:=fun i=>World.var?_cell (by kernel_rfl:Tryz.prog.globalNamed "paxtar/paxrec.keys"=some 2) hvar i;have hc:∀i,cs[i]? =cs.toList[i]? :=fun i=>Array.getElem?_toList.symm;refine⟨?_,?_,?_⟩
 ·rw[hcells,hc,hcs];rfl
 ·rw[hcells,hc,hcs];rfl
 ·rw[hcells,hc,hcs];rfl
theorem lh {W:World}{rest:List (String×DataW Unit)}(h:laidMet Tryz.prog (("internal/strconv.uint64pow10",Rows.laid_internal_strconv_uint64pow10) ::rest) W) :Lib.TabIs Tryz.prog W "internal/strconv.uint64pow10" .u64 Lib.pow10Tab:=by
 have e: (Rows.laid_internal_strconv_uint64pow10:DataW Unit) =Lib.tabData .u64 Lib.pow10Tab:=by kernel_rfl
 rw[e]at h;exact Lib.tabIs_of_head (P:=Tryz.prog) (by kernel_rfl:Tryz.prog.globalNamed "internal/strconv.uint64pow10"=some 3) (by kernel_rfl: (Tryz.prog.globals[3]?).map (·.type) =some 304) Tryz.underlying304 Tryz.underlying287 (by kernel_rfl) (by kernel_rfl) h
theorem ln {W:World}{rest:List (String×DataW Unit)}(h:laidMet Tryz.prog (("paxtar/fit.types",Rows.laid_paxtar_fit_types) ::rest) W) :Lib.TabIs Tryz.prog W "paxtar/fit.types" .u8 [53,48,50,49] :=by
 have e: (Rows.laid_paxtar_fit_types:DataW Unit) =Lib.tabData .u8 [53,48,50,49] :=by kernel_rfl
 rw[e]at h;exact Lib.tabIs_of_head (P:=Tryz.prog) xy (by kernel_rfl: (Tryz.prog.globals[0]?).map (·.type) =some 229) Tryz.underlying229 Tryz.underlying5 (by kernel_rfl) (by kernel_rfl) h
theorem star: "*"++ "errors.errorString"= "*errors.errorString":=by decide
theorem Br (u:TypeId)(h:Tryz.prog.typeName? 3 u=some "*errors.errorString") :u=333:=
 typeName_ptr_named (nm:= "errors.errorString") (by rw[star];kernel_rfl) (by kernel_rfl) (by decide) u (by rw[star];exact h)
theorem mL {W:World}{a b:String×DataW Unit}(h:laidMetH Tryz.prog [a,b,("internal/strconv.uint64pow10",Rows.laid_internal_strconv_uint64pow10),("strconv.ErrRange",Rows.laid_strconv_ErrRange),("strconv.ErrSyntax",Rows.laid_strconv_ErrSyntax),("paxtar/paxrec.keys",Rows.laid_paxtar_paxrec_keys),("paxtar/fit.types",Rows.laid_paxtar_fit_types)] W)
 (hp: ([a,b,("internal/strconv.uint64pow10",Rows.laid_internal_strconv_uint64pow10),("strconv.ErrRange",Rows.laid_strconv_ErrRange),("strconv.ErrSyntax",Rows.laid_strconv_ErrSyntax),("paxtar/paxrec.keys",Rows.laid_paxtar_paxrec_keys),("paxtar/fit.types",Rows.laid_paxtar_fit_types)].all fun x=>x.2.handleName?.isNone) =true) :ot W:=by
 rw[MakeChecks.laidMetH_plain _ _ _ hp]at h;have h1:=h.tail.tail;have h2:=h1.tail;have h3:=h2.tail;have h4:=h3.tail;obtain⟨k0,k1,k2⟩:=jx h4;obtain⟨a0,s0,hr,-,-,-⟩:=laid_sentinel h2 Aq (by kernel_rfl: (Tryz.prog.globals[5]?).map (·.type) =some 279) Tryz.underlying279 Br Tryz.underlying333 Tryz.underlying335 rfl rfl Tryz.underlying9 (by kernel_rfl) (by kernel_rfl);obtain⟨a1,s1,hs,-,-,-⟩:=laid_sentinel h3 Ar (by kernel_rfl: (Tryz.prog.globals[4]?).map (·.type) =some 279) Tryz.underlying279 Br Tryz.underlying333 Tryz.underlying335 rfl rfl Tryz.underlying9 (by kernel_rfl) (by kernel_rfl);exact⟨⟨⟨lh h1,k0,k1,k2⟩,ln h4.tail⟩,⟨_,_,hs⟩,⟨_,_,hr⟩⟩
end Fit
namespace Pnm
open Go.RowKit
theorem gw {z:Int}(h1:0<=z)(h2:z<=9223372036854775807) :IntKind.i64.wrap z=z:=by
 have hb:IntKind.i64.bits=64:=rfl;have hs:IntKind.i64.signed=true:=rfl;unfold IntKind.wrap;simp only[hb,hs,Bool.true_and];have e: (2:Int) ^64=18446744073709551616:=by decide
 have e': (2:Int) ^ (64- 1) =9223372036854775808:=by decide
 rw[e,e',Int.emod_eq_of_lt h1 (by omega),if_neg (by simp;omega)]
theorem cV {s t:ByteArray}(h:¬s=t) : (s.toList==t.toList) =false:=by
 rw[beq_eq_false_iff_ne]
 exact fun e=>h (by
  apply ByteArray.ext;apply Array.ext';rw[ByteArray.toList_eq,ByteArray.toList_eq]at e;exact e)
theorem cE {s:ByteArray}(h:¬s= {data:= #[]}) :s.toList.isEmpty=false:=by
 have h1:=cV h;have e: ({data:= #[]} :ByteArray).toList= [] :=by rw[ByteArray.toList_eq]
 rw[e]at h1
 cases hl:s.toList with
 |nil=>rw[hl]at h1;simp at h1
 |cons x xs=>rfl
theorem dZ (s t:ByteArray) :ad (s++t) =ad s++ad t:=by
 unfold ad;rw[ByteArray.data_append,Array.toList_append,List.map_append]
theorem dC (s:ByteArray)(j:Nat)(h:j<s.size) : (ad s).getD j 0= (s[j].toNat:Int) :=by
 have h1: (ad s)[j]? =some (s[j].toNat:Int) :=by
  unfold ad;rw[List.getElem?_map,Array.getElem?_toList,Array.getElem?_eq_getElem (by exact h)];rfl
 rw[List.getD_eq_getElem?_getD,h1];rfl
theorem gm (s:ByteArray)(a b:Nat) :ad (s.extract a b) = ((ad s).drop a).take (b- a) :=by
 unfold ad;rw[ByteArray.data_extract,Array.toList_extract,List.extract_eq_take_drop,List.map_take,List.map_drop]
theorem fg (s:ByteArray)(a b:Nat) :s.extract a b=strOfNums (((ad s).drop a).take (b- a)) :=by
 rw[<- gm,aJ]
theorem bQ {s t:ByteArray}(h:ad s=ad t) :s=t:=by rw[<- aJ s,<- aJ t,h]
theorem oP (s:ByteArray)(w:World)(hs:s.size<=maxLen) :Calls Tryz.prog 186 #[.string s] w fun e w'=>e= .returned (.bool (decide (fB (ad s))))/\w=w':=by
 unfold maxLen at hs;by_cases h1:s= {data:= #[]}
 ·subst h1;rw[decide_eq_false (fun h=>h.1 rfl)];go_enter Tryz.func186,Tryz.ntmps186;go_wp2;go_ret;exact⟨rfl,rfl⟩
 ·by_cases h2:s= {data:= #[46]}
  ·subst h2;rw[decide_eq_false (fun h=>h.2.1 rfl)];go_enter Tryz.func186,Tryz.ntmps186;go_wp2;go_ret;exact⟨rfl,rfl⟩
  ·by_cases h3:s= {data:= #[46,46]}
   ·subst h3;rw[decide_eq_false (fun h=>h.2.2.1 rfl)];go_enter Tryz.func186,Tryz.ntmps186;go_wp2;go_ret;exact⟨rfl,rfl⟩
   ·have n1:s.toList.isEmpty=false:=cE h1;have n2:=cV h2;have n3:=cV h3;have e2: ({data:= #[46]} :ByteArray).toList= [46] :=by rw[ByteArray.toList_eq]
    have e3: ({data:= #[46,46]} :ByteArray).toList= [46,46] :=by rw[ByteArray.toList_eq]
    have n2': (s.toList== [46]) =false:=by rw[<- e2];exact n2
    have n3': (s.toList== [46,46]) =false:=by rw[<- e3];exact n3
    have g1:ad s≠ [] :=fun h=>h1 (bQ h);have g2:ad s≠ [46] :=fun h=>h2 (bQ h);have g3:ad s≠ [46,46] :=fun h=>h3 (bQ h);obtain⟨R,hR⟩:=named (decide (fB (ad s)))
    have HR:Hid (R=!decide ((0:Int)∈ad s)) :=by
     show _=_;rw[hR.out];by_cases hz: (0:Int)∈ad s
     ·rw[decide_eq_false (fun h=>h.2.2.2 hz),decide_eq_true hz];rfl
     ·rw[decide_eq_true (show fB (ad s)from⟨g1,g2,g3,hz⟩),decide_eq_false hz];rfl
    have HA:Hid (∀j (h:j<s.size),(ad s).getD j 0= (s[j].toNat:Int)) :=dC s;have NL:=aa (ah s);rw[<- hR.out];go_enter Tryz.func186,Tryz.ntmps186;go_wp2;go_loop [3] (fun i=>∃j:Nat,j<=s.size/\i= .int .i64 j/\∀k,k<j-> (ad s).getD k 0≠0) (fun i=>s.size+1- (intOf i).toNat)
    case atStart=>exact⟨0,Nat.zero_le _,rfl,fun k hk=>by omega⟩
    case round=>
     obtain⟨j,hj,rfl,(HZ:Hid _)⟩:=hrel;by_cases hlt:j<s.size
     ·have m1: (j:Int) <s.size:=by omega
      have hx:=HA.out j hlt;obtain⟨x,hxe⟩:∃x:Int,((s[j].toNat:Nat) :Int) =x:=⟨_,rfl⟩;rw[hxe]at hx;by_cases h0:x=0
      ·have m2: (x==0) =true:=by rw[h0];rfl
       have e:Hid (R=false) :=by
        show _=_;rw[HR.out,decide_eq_true];rfl;have hl:j< (ad s).length:=by rw[NL.out];exact hlt
        rw[h0,List.getD_eq_getElem?_getD,List.getElem?_eq_getElem hl]at hx;have hx': (ad s)[j] =0:=hx;rw[<- hx'];exact List.getElem_mem hl
       go_wp2;go_ret;rw[e.out];exact⟨rfl,rfl⟩
      ·have m2: (x==0) =false:=by simpa using h0
       have HX:Hid ((ad s).getD j 0≠0) :=by show _≠_;rw[hx];exact h0
       go_wp2
       go_round
       case rel=>exact⟨j+1,by omega,by go_num,fun k hk=>by
        by_cases e:k=j
        ·rw[e];exact HX.out
        ·exact HZ.out k (by omega)⟩
       case measure=>simp[intOf];omega
     ·obtain rfl:j=s.size:=by omega
      have e:Hid (R=true) :=by
       show _=_;rw[HR.out,decide_eq_false];rfl;intro hm;obtain⟨k,hk,he⟩:=List.getElem_of_mem hm;refine HZ.out k (by rw[NL.out]at hk;exact hk) ?_;rw[List.getD_eq_getElem?_getD,List.getElem?_eq_getElem hk];exact he
      go_wp2;go_ret;rw[e.out];exact⟨rfl,rfl⟩
theorem qL (s:ByteArray)(a b:Nat) : (s.extract a b).size<=s.size:=by
 rw[<- ah,gm,List.length_take,List.length_drop,ah];omega
theorem xK {l:List Int}{x:Int}(h:x∈l) :∃i,i<l.length/\l.getD i 0=x:=by
 obtain⟨i,hi,e⟩:=List.getElem_of_mem h;exact⟨i,hi,by rw[List.getD_eq_getElem?_getD,List.getElem?_eq_getElem hi];exact e⟩
theorem mT {zs:List Int}{a j:Nat}(h:∀k,a<=k->k<j->zs.getD k 0≠47) : (47:Int)∉(zs.drop a).take (j- a) :=by
 intro hm;obtain⟨i,hi,he⟩:=xK hm;rw[List.length_take,List.length_drop]at hi;rw[List.getD_eq_getElem?_getD,List.getElem?_take,if_pos (by omega),List.getElem?_drop,<- List.getD_eq_getElem?_getD]at he;exact h (a+i) (by omega) (by omega) he
theorem wZ {zs:List Int}{a j:Nat}(ha:a<=j)(hj:j<zs.length)(h:zs.getD j 0=47) :zs.drop a= (zs.drop a).take (j- a) ++47::zs.drop (j+1) :=by
 have hg:zs[j] =47:=by rw[List.getD_eq_getElem?_getD,List.getElem?_eq_getElem hj]at h;exact h
 have e:zs.drop j=47::zs.drop (j+1) :=by rw[List.drop_eq_getElem_cons hj,hg]
 rw[<- e]
 conv=>lhs;rw[<- List.take_append_drop (j- a) (zs.drop a)]
 rw[List.drop_drop,show a+ (j- a) =j by omega]
theorem cv (s:ByteArray)(w:World)(hs:s.size<=maxLen) :Calls Tryz.prog 135 #[.string s] w fun e w'=>e= .returned (.int .i64 (nV (ad s)))/\w=w':=by
 have hs0:=hs;unfold maxLen at hs;have NL:=aa (ah s);by_cases h1:65536<s.size
 ·have h1': (65536:Int) <s.size:=by omega
  have e:nV (ad s) =7:=by unfold nV;rw[if_pos (by rw[NL.out];exact h1)]
  rw[e];go_enter Tryz.func135,Tryz.ntmps135;go_wp2;go_ret;exact⟨rfl,rfl⟩
 ·have h1':¬(65536:Int) <s.size:=by omega
  have h1'': (s.size:Int)<=65536:=by omega
  obtain⟨R,hR⟩:=named (nV (ad s));have RG:Hid (cu (ad s)->R=0) :=fun h=>by rw[hR.out];unfold nV;rw[if_neg (by rw[NL.out];exact h1),if_pos h]
  have RB:Hid (¬cu (ad s)->R=6) :=fun h=>by rw[hR.out];unfold nV;rw[if_neg (by rw[NL.out];exact h1),if_neg h]
  have HA:Hid (∀j (h:j<s.size),(ad s).getD j 0= (s[j].toNat:Int)) :=dC s;have HSM:=aa hs0;rw[<- hR.out];go_enter Tryz.func135,Tryz.ntmps135;go_wp2;go_loop [3,4] (fun f i=>∃a j:Nat,f= .int .i64 a/\i= .int .i64 j/\ ((j<=s.size/\a<=j/\ (∀k,a<=k->k<j-> (ad s).getD k 0≠47)/\ (cu (ad s)↔cu ((ad s).drop a)))\/ (j=s.size+1/\cu (ad s)))) (fun _ i=>s.size+2- (intOf i).toNat)
  case atStart=>exact⟨0,0,rfl,rfl,.inl ⟨Nat.zero_le _,aj,fun k _ h=>by omega,Iff.rfl⟩⟩
  case round=>
   obtain⟨a,j,rfl,rfl,hc⟩:=hrel;rcases hc with⟨hj,ha,hn,hi⟩|⟨hj,hok⟩
   ·have HN:=aa hn;have HI:=aa hi;have m0: (j:Int)<=s.size:=by omega
    have m1: (a:Int)<=j:=by omega
    by_cases hlt:j<s.size
    ·have m2: ((j:Int) ==s.size) =false:=by simp;omega
     have m3: (j:Int) <s.size:=by omega
     have hx:=HA.out j hlt;obtain⟨x,hxe⟩:∃x:Int,((s[j].toNat:Nat) :Int) =x:=⟨_,rfl⟩;rw[hxe]at hx;by_cases h47:x=47
     ·have m4: (x==47) =true:=by rw[h47];rfl
      have cut:=wZ (zs:=ad s) ha (by rw[NL.out];exact hlt) (by rw[hx];exact h47);have nsl:=mT (zs:=ad s) HN.out
      have STEP:Hid (cu (ad s)↔fB (ad (s.extract a j))/\cu ((ad s).drop (j+1))) :=by
       show _↔_;rw[HI.out,cut,ng,gm,gD nsl]
      go_wp2_with fail;refine(oP (s.extract a j) w (Nat.le_trans (qL s a j) HSM.out)).mono ?_;rintro e w1 ⟨rfl,rfl⟩;by_cases hp:fB (ad (s.extract a j))
      ·have HP:=aa hp;rw[decide_eq_true hp];go_wp2
       go_round
       case rel=>exact⟨j+1,j+1,by go_num,by go_num,.inl ⟨by omega,aj,fun k h1 h2=>by omega,⟨fun h=> (STEP.out.1 h).2,fun h=>STEP.out.2 ⟨HP.out,h⟩⟩⟩⟩
       case measure=>simp[intOf];omega
      ·have e:=aa (RB.out fun h=>hp (STEP.out.1 h).1);rw[decide_eq_false hp];go_wp2;go_ret;rw[e.out];exact⟨rfl,rfl⟩
     ·have m4: (x==47) =false:=by simpa using h47
      have HX:Hid ((ad s).getD j 0≠47) :=by show _≠_;rw[hx];exact h47
      go_wp2
      go_round
      case rel=>exact⟨a,j+1,rfl,by go_num,.inl ⟨by omega,by omega,fun k h1 h2=>by
       by_cases e:k=j
       ·rw[e];exact HX.out
       ·exact HN.out k h1 (by omega),HI.out⟩⟩
      case measure=>simp[intOf];omega
    ·obtain rfl:j=s.size:=by omega
     have nsl:=mT (zs:=ad s) HN.out
     have STEP:Hid (cu (ad s)↔fB (ad (s.extract a s.size))) :=by
      show _↔_;rw[HI.out,gm,<- gD nsl,List.take_of_length_le (by rw[List.length_drop,NL.out];exact aj)]
     go_wp2_with fail;refine(oP (s.extract a s.size) w (Nat.le_trans (qL s a s.size) HSM.out)).mono ?_;rintro e w1 ⟨rfl,rfl⟩;by_cases hp:fB (ad (s.extract a s.size))
     ·have HP:=aa (STEP.out.2 hp);rw[decide_eq_true hp];go_wp2
      go_round
      case rel=>exact⟨s.size+1,s.size+1,by go_num,by go_num,.inr ⟨rfl,HP.out⟩⟩
      case measure=>simp[intOf]
     ·have e:=aa (RB.out fun h=>hp (STEP.out.1 h));rw[decide_eq_false hp];go_wp2;go_ret;rw[e.out];exact⟨rfl,rfl⟩
   ·have e:=aa (RG.out hok);have m0:decide ((j:Int)<=s.size) =false:=by simp;omega
    go_wp2;go_ret;rw[e.out];exact⟨rfl,rfl⟩
end Pnm
namespace Pnm
open Go.RowKit Go.Shelf
attribute [local go_sem] Oper.semAt_some
def dW (s:ByteArray) :List ByteArray:= (bZ (ad s)).map strOfNums
theorem wX (F:Fence)(n:Nat)(hf:F.fn 214)(hro:F.round=none)(hn:1<=n)(l Bp n₀:Nat)(s:ByteArray)(hs:s.size<=maxLen)(hb:Bp<n₀)(J Jx:List ByteArray->World->Prop)
 (hY:∀pre x W,J pre W->pre.length< (dW s).length->YieldAt F (n- 1) Tryz.prog l #[.string x] W fun e W'=>
   (e= .returned (.bool true)/\J (pre++ [x]) W'/\Below n₀ W W')\/ (e= .returned (.bool false)/\Jx (pre++ [x]) W'))
 (W:World)(hBp:W.cell? ⟨Bp,0,none⟩=some (.string s))(h0:J [] W) :
 CallsIn F n Tryz.prog 214 #[.func (.yield l) #[] #[],.pointer (some ⟨Bp,0,none⟩)] W fun e W'=> (∃v,e= .returned v)/\
  ((∃ys,ys=dW s/\J ys W')\/ (∃pre,pre<+:dW s/\Jx pre W')) :=by
 unfold maxLen at hs;have NL:=aa (ah s);have HA:Hid (∀j (h:j<s.size),(ad s).getD j 0= (s[j].toNat:Int)) :=dC s;refine callsIn_of_wp Tryz.func214 rfl hf ?_ hro;simp only[Tryz.ntmps214,List.size_toArray,List.length_cons,List.length_nil,Nat.reduceAdd,Nat.reduceSub,Array.replicate_succ,Array.replicate_zero,List.push_toArray,List.append_toArray,List.nil_append,List.cons_append]
 gi_wp2
 gi_loopw [3,7] (fun f i wr=>∃(a j:Nat) (pre:List ByteArray),f= .int .i64 a/\i= .int .i64 j/\j<=s.size/\a<=j/\ (∀k,a<=k->k<j-> (ad s).getD k 0≠47)/\pre++ (bZ ((ad s).drop a)).map strOfNums=dW s/\J pre wr/\Below n₀ W wr)
  (fun _ i _=>s.size+1- (intOf i).toNat)
 case atStart=>exact⟨0,0,[],rfl,rfl,Nat.zero_le _,aj,fun k _ h=>by omega,rfl,h0,au⟩
 case round=>
  obtain⟨a,j,pre,rfl,rfl,hj,ha,(HN:Hid _),(HP:Hid _),(HJ:Hid _),(HX:Hid _)⟩:=hrel;have hcell:wr.cell? ⟨Bp,0,none⟩=some (.string s) := (HX.out.cell (p:=⟨Bp,0,none⟩) hb).trans hBp;have m1: (a:Int)<=j:=by omega
  have m0: (j:Int)<=s.size:=by omega
  have nsl:=aa (mT (zs:=ad s) HN.out);by_cases hlt:j<s.size
  ·have m3: (j:Int) <s.size:=by omega
   have hx:=HA.out j hlt;obtain⟨x,hxe⟩:∃x:Int,((s[j].toNat:Nat) :Int) =x:=⟨_,rfl⟩;rw[hxe]at hx;by_cases h47:x=47
   ·have m4: (x !=47) =false:=by rw[h47];rfl
    have cut:=wZ (zs:=ad s) ha (by rw[NL.out];exact hlt) (by rw[hx];exact h47)
    have e1:Hid ((pre++ [s.extract a j]) ++ (bZ ((ad s).drop (j+1))).map strOfNums=dW s) :=by
     show _=_;rw[<- HP.out,cut,vf nsl.out,List.map_cons,fg,List.append_assoc];rfl
    have hlen:pre.length< (dW s).length:=by rw[<- e1.out];simp
    obtain⟨fn,tmps,assign,body,hy,hR⟩:=hY pre (s.extract a j) wr HJ.out hlen
    gi_wp2
    refine hR.mono ?_;rintro e W3 (⟨rfl,hJ3,hk3⟩|⟨rfl,hJx3⟩)
    ·gi_wp2
     go_roundw
     case rel=>exact⟨j+1,j+1,pre++ [s.extract a j],by go_num,by go_num,by omega,aj,fun k h1 h2=>by omega,e1.out,hJ3,HX.out.trans hk3⟩
     case measure=>simp[intOf];omega
    ·gi_wp2
     refine bodyPost_ret (results_none rfl _ _ _) rfl ?_;exact⟨⟨_,rfl⟩,.inr ⟨_,⟨_,e1.out⟩,hJx3⟩⟩
   ·have m4: (x !=47) =true:=by simpa using h47
    have HX47:Hid ((ad s).getD j 0≠47) :=by show _≠_;rw[hx];exact h47
    gi_wp2
    go_roundw
    case rel=>exact⟨a,j+1,pre,rfl,by go_num,by omega,by omega,fun k h1 h2=>by
     by_cases e:k=j
     ·rw[e];exact HX47.out
     ·exact HN.out k h1 (by omega),HP.out,HJ.out,HX.out⟩
    case measure=>simp[intOf];omega
  ·obtain rfl:j=s.size:=by omega
   have e1:Hid (pre++ [s.extract a s.size] =dW s) :=by
    show _=_;have e:=nsl.out;rw[List.take_of_length_le (by rw[List.length_drop,NL.out];exact aj)]at e;rw[<- HP.out,kh e,fg,List.take_of_length_le (by rw[List.length_drop,NL.out];exact aj)];rfl
   have hlen:pre.length< (dW s).length:=by rw[<- e1.out];simp
   obtain⟨fn,tmps,assign,body,hy,hR⟩:=hY pre (s.extract a s.size) wr HJ.out hlen
   gi_wp2
   refine hR.mono ?_;rintro e W3 (⟨rfl,hJ3,hk3⟩|⟨rfl,hJx3⟩)
   ·gi_wp2
    go_end0
    exact⟨⟨_,rfl⟩,.inl ⟨_,e1.out,hJ3⟩⟩
   ·gi_wp2
    go_end0
    exact⟨⟨_,rfl⟩,.inr ⟨_,⟨[],by rw[List.append_nil];exact e1.out⟩,hJx3⟩⟩
theorem zV (F:Fence)(n:Nat)(hf:F.fn 190)(hro:F.round=none)(s:ByteArray)(w:World) :
 CallsIn F n Tryz.prog 190 #[.string s] w fun e w'=>e= .returned (.func (.func 214) #[] #[.pointer (some ⟨w.heap.size,0,none⟩)])/\w'=w.alloc (.cells #[.string s] 9) :=by
 refine callsIn_of_wp Tryz.func190 rfl hf ?_ hro;simp only[Tryz.ntmps190,List.size_toArray,List.length_cons,List.length_nil,Nat.reduceAdd,Nat.reduceSub,Array.replicate_succ,Array.replicate_zero,List.push_toArray,List.append_toArray,List.nil_append,List.cons_append]
 gi_wp2
 go_ret;exact⟨rfl,rfl⟩
theorem sr (F:Fence)(n:Nat)(hf:F.fn 214)(hro:F.round=none)(hn:1<=n)(Bp n₀:Nat)(s:ByteArray)(hs:s.size<=maxLen)(hb:Bp<n₀)(w:World)(hB:Bp<w.heap.size)
 (hc:w.cell? ⟨Bp,0,none⟩=some (.string s)) :
 SeqStopsK F n Tryz.prog 214 #[.pointer (some ⟨Bp,0,none⟩)] (fun x:ByteArray=> #[Value.string x]) (Below n₀) (fun ys=>ys=dW s) (fun pre=>pre<+:dW s) (dW s).length w:=fun l J Jx W hW _ _ hY h0=>
 wX F n hf hro hn l Bp n₀ s hs hb J Jx hY W ((hW.cell (p:=⟨Bp,0,none⟩) hB).trans hc) h0
end Pnm
namespace Pnm
open Go.RowKit
theorem qH (s:ByteArray)(j:Nat)(h:j<s.size) : (ad s).drop j= (s[j].toNat:Int) :: (ad s).drop (j+1) :=by
 have hl:j< (ad s).length:=by rw[ah];exact h
 rw[List.drop_eq_getElem_cons hl];have:=dC s j h;rw[List.getD_eq_getElem?_getD,List.getElem?_eq_getElem hl]at this;rw[<- this];rfl
theorem jr (s:ByteArray) : (ad s).drop s.size= [] :=by rw[List.drop_eq_nil_iff,ah];exact aj
theorem td (s:ByteArray)(w:World)(hs:s.size<=maxLen) :Calls Tryz.prog 116 #[.string s] w fun e w'=>e= .returned (.tuple #[.string (strOfNums (dO (ad s))),.string (strOfNums (dN (ad s))),.bool (eV (ad s))])/\Below w.heap.size w w':=by
 unfold maxLen at hs;obtain⟨P,hP⟩:=named (strOfNums (dO (ad s)));obtain⟨N,hN⟩:=named (strOfNums (dN (ad s)));obtain⟨B,hB⟩:=named (eV (ad s));rw[<- hP.out,<- hN.out,<- hB.out];have NL:=aa (ah s);by_cases h1:s.size<=100
 ·have h1': (s.size:Int)<=100:=by omega
  have e1:Hid (P= {data:= #[]}/\N=s/\B=true) :=by
   show _/\_/\_;have hl: (ad s).length<=100:=by rw[NL.out];exact h1
   refine⟨?_,?_,?_⟩
   ·rw[hP.out];unfold dO;rw[if_pos hl];rfl
   ·rw[hN.out];unfold dN;rw[if_pos hl,aJ]
   ·rw[hB.out];unfold eV;rw[if_pos hl]
  go_enter Tryz.func116,Tryz.ntmps116;go_wp2;go_ret3;obtain⟨q1,q2,q3⟩:=e1.out;rw[q1,q2,q3];exact⟨rfl,au⟩
 ·have h1':¬(s.size:Int)<=100:=by omega
  have hl:¬(ad s).length<=100:=by rw[NL.out];exact h1
  have FN:Hid ((∀k,¬fm (ad s) k)->P= {data:= #[]}/\N= {data:= #[]}/\B=false) :=fun h=>by
   have e:=uF h;refine⟨?_,?_,?_⟩
   ·rw[hP.out];unfold dO;rw[if_neg hl,e];rfl
   ·rw[hN.out];unfold dN;rw[if_neg hl,e];rfl
   ·rw[hB.out];unfold eV;rw[if_neg hl,e];rfl
  have FS:Hid (∀j,fm (ad s) j-> (∀k,k<j->¬fm (ad s) k)->P=s.extract 0 j/\N=s.extract (j+1) s.size/\B=true) :=fun j h h'=>by
   have e:=nC h h';refine⟨?_,?_,?_⟩
   ·rw[hP.out];unfold dO;rw[if_neg hl,e,fg];rfl
   ·rw[hN.out];unfold dN;rw[if_neg hl,e,fg,List.take_of_length_le (by rw[List.length_drop,NL.out];exact aj)]
   ·rw[hB.out];unfold eV;rw[if_neg hl,e];rfl
  have HA:Hid (∀j (h:j<s.size),(ad s).getD j 0= (s[j].toNat:Int)) :=dC s;go_enter Tryz.func116,Tryz.ntmps116;go_wp2_with fail;go_loopw [5,6] (fun i _ wr=>∃j:Nat,1<=j/\j<=156/\j<=s.size/\i= .int .i64 j/\ (∀k,k<j->¬fm (ad s) k)/\wr=w) (fun i _ _=>s.size+1- (intOf i).toNat)
  case atStart=>exact⟨1,aj,by decide,by omega,rfl,fun k hk h=>by have:=h.1;omega,rfl⟩
  case round=>
   obtain⟨j,hj1,hj2,hj3,rfl,(HNO:Hid _),rfl⟩:=hrel;by_cases l1:j<s.size
   ·have m1: (j:Int) <s.size:=by omega
    by_cases l2:j<=155
    ·have m2: (j:Int)<=155:=by omega
     have hx:=HA.out j l1;obtain⟨x,hxe⟩:∃x:Int,((s[j].toNat:Nat) :Int) =x:=⟨_,rfl⟩;rw[hxe]at hx;have hw1:IntKind.i64.wrap ((s.size:Int) - j- 1) = (s.size:Int) - j- 1:=by exact gw (by omega) (by omega)
     by_cases hsf:fm (ad s) j
     ·obtain⟨q1,q2,q3⟩:=FS.out j hsf HNO.out;obtain⟨_,_,a3,a4,a5⟩:=hsf;rw[NL.out]at a3 a4;have m3: (x==47) =true:=by rw[<- hx,a5];rfl
      have m4: (1:Int)<= (s.size:Int) - j- 1:=by omega
      have m5: (s.size:Int) - j- 1<=100:=by omega
      have m6: (j:Int) +1<=s.size:=by omega
      have Q:=aa (And.intro q1 (And.intro q2 q3));go_wp2_with fail;go_quiet (fail);go_wp2;go_ret3;obtain⟨q1,q2,q3⟩:=Q.out;rw[q1,q2,q3];exact⟨rfl,aS _ _ _⟩
     ·have HN1:Hid (∀k,k<j+1->¬fm (ad s) k) :=fun k hk=>by
       by_cases e:k=j
       ·rw[e];exact hsf
       ·exact HNO.out k (by omega)
      have why: (x==47) =false\/ ((x==47) =true/\decide ((1:Int)<= (s.size:Int) - j- 1) =false)\/ ((x==47) =true/\ (1:Int)<= (s.size:Int) - j- 1/\decide ((s.size:Int) - j- 1<=100) =false) :=by
       by_cases c1:x=47
       ·by_cases c2: (1:Int)<= (s.size:Int) - j- 1
        ·by_cases c3: (s.size:Int) - j- 1<=100
         ·exact absurd ⟨hj1,l2,by rw[NL.out];omega,by rw[NL.out];omega,by rw[hx];exact c1⟩ hsf
         ·exact .inr (.inr ⟨by rw[c1];rfl,c2,by simpa using c3⟩)
        ·exact .inr (.inl ⟨by rw[c1];rfl,by simpa using c2⟩)
       ·exact .inl (by simpa using c1)
      rcases why with m3|⟨m3,m4⟩|⟨m3,m4,m5⟩
      all_goals
       go_wp2_with fail;go_roundw
       case rel=>exact⟨j+1,by omega,by omega,by omega,by go_num,HN1.out,trivial⟩
       case measure=>simp[intOf];omega
    ·have m2:decide ((j:Int)<=155) =false:=by simp;omega
     have e1:=aa (FN.out fun k hk=>if h:k<j then HNO.out k h hk else by have:=hk.2.1;omega);go_wp2;go_ret3;obtain⟨q1,q2,q3⟩:=e1.out;rw[q1,q2,q3];exact⟨rfl,au⟩
   ·have m1:decide ((j:Int) <s.size) =false:=by simp;omega
    have e1:=aa (FN.out fun k hk=>if h:k<j then HNO.out k h hk else by have:=hk.2.2.1;rw[NL.out]at this;omega);go_wp2;go_ret3;obtain⟨q1,q2,q3⟩:=e1.out;rw[q1,q2,q3];exact⟨rfl,au⟩
end Pnm
end Go.Proofs.YtcjagakckffkiaaGreatDoor
