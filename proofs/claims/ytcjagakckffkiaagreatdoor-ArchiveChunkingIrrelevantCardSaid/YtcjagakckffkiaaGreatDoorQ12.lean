import Derived.Test.YtcjagakckffkiaaGreatDoorQ8
import Derived.Test.YtcjagakckffkiaaGreatDoorQ4
import Derived.Test.YtcjagakckffkiaaGreatDoorQ1
import Derived.Test.YtcjagakckffkiaaGreatDoorRows
import Derived.Test.YtcjagakckffkiaaGreatDoorQ0
import Derived.Test.YtcjagakckffkiaaGreatDoorQ3
import Derived.Deep.DeepMust
import Derived.RangeFuncNested
import Derived.RangeFuncBound
import Derived.RangeFuncCalls
import Derived.RangeFuncLeaves
import Derived.Shelf.Abstract
import Derived.Shelf.RegionOpen
import Derived.WalkKit
import Derived.OwnWalkIn
import Derived.TacticsInMore
import Derived.LoopNIn
import Derived.LoopIn
import Derived.Deep.QuietTactic
import Derived.BigQuiet
import Derived.BigRegion
import Derived.Test.YtcjagakckffkiaaGreatDoorQ9
set_option maxHeartbeats 16000000
namespace Go.Proofs.YtcjagakckffkiaaGreatDoor.Fit
open Go.RowKit bL
structure dF (w:World) :Prop where
 v:iX w
 Qf:Lib.TabIs Tryz.prog w "paxtar/fit.types" .u8 [53,48,50,49]
structure fb (w:World) :Prop where
 f:dF w
 Ri:∃tp p,w.var? Tryz.prog "strconv.ErrSyntax"=some #[.iface tp p]
 Rh:∃tp p,w.var? Tryz.prog "strconv.ErrRange"=some #[.iface tp p]
theorem nU {w w':World}{B g:Nat}{n:String}{cs:Array Value}(hg:Tryz.prog.globalNamed n=some g)(h:w.var? Tryz.prog n=some cs)(hb:Below B w w')(hB:w.heap.size<=B) :w'.var? Tryz.prog n=some cs:=by
 unfold World.var? at h⊢;rw[hg]at h⊢
 have hl:g<w.heap.size:=by
  rcases Nat.lt_or_ge g w.heap.size with h'|h'
  ·exact h'
  ·simp[Array.getElem?_eq_none h']at h
 rw[<- h];simp only[Option.bind_some];rw[hb.block g (by omega)]
theorem yA:Tryz.prog.globalNamed "paxtar/fit.types"=some 0:=by kernel_rfl
theorem Fl:Tryz.prog.globalNamed "strconv.ErrSyntax"=some 4:=by kernel_rfl
theorem DU:Tryz.prog.globalNamed "strconv.ErrRange"=some 5:=by kernel_rfl
theorem dF.below {w w':World}{B:Nat}(h:dF w)(hb:Below B w w')(hB:w.heap.size<=B) :dF w':=
 ⟨h.v.below hb hB,nU yA h.Qf hb hB⟩
theorem dF.go {w w':World}(h:dF w)(hb:Below w.heap.size w w') :dF w':=h.below hb ah
theorem fb.below {w w':World}{B:Nat}(h:fb w)(hb:Below B w w')(hB:w.heap.size<=B) :fb w':=by
 obtain⟨f,⟨a,b,c⟩,⟨d,e,g⟩⟩:=h;exact⟨f.below hb hB,⟨a,b,nU Fl c hb hB⟩,⟨d,e,nU DU g hb hB⟩⟩
theorem fb.go {w w':World}(h:fb w)(hb:Below w.heap.size w w') :fb w':=h.below hb ah
theorem dF.ty {w:World}(h:dF w){k:Int}(h0:0<=k)(h4:k<4) :w.cell? ⟨0,k.toNat,none⟩=some (.int .u8 (yf k)) :=by
 have hc:=h.Qf.cell yA;rcases(show k=0\/k=1\/k=2\/k=3 by omega)with rfl|rfl|rfl|rfl
 ·exact hc 0 (by decide)
 ·exact hc 1 (by decide)
 ·exact hc 2 (by decide)
 ·exact hc 3 (by decide)
theorem mZ {W:World}{rest:List (String×DataW Unit)}(h2:laidMet Tryz.prog (("paxtar/paxrec.keys",Rows.laid_paxtar_paxrec_keys) ::rest) W) :
 W.cell? ⟨2,0,none⟩=some (.string aQ)/\W.cell? ⟨2,1,none⟩=some (.string aM)/\W.cell? ⟨2,2,none⟩=some (.string aS) :=by
 obtain⟨ps,⟨g',t',cs,fuel,p,q,hg',ht',hvar,hd,_,_⟩,_⟩:=h2;obtain rfl:=Option.some.inj ((by kernel_rfl:Tryz.prog.globalNamed "paxtar/paxrec.keys"=some 2).symm.trans hg');obtain rfl:=Option.some.inj ((by kernel_rfl: (Tryz.prog.globals[2]?).map (·.type) =some 301).symm.trans ht');have hcs:=sA (zs:= [[108,105,110,107,112,97,116,104],[112,97,116,104],[115,105,122,101]]) Tryz.underlying301 Tryz.underlying9 (by kernel_rfl) (by kernel_rfl) hd;have hcells:=fun i=>World.var?_cell (by kernel_rfl:Tryz.prog.globalNamed "paxtar/paxrec.keys"=some 2) hvar i;have hc:∀i,cs[i]? =cs.toList[i]? :=fun i=>Array.getElem?_toList.symm;refine⟨?_,?_,?_⟩
 ·rw[hcells,hc,hcs];rfl
 ·rw[hcells,hc,hcs];rfl
 ·rw[hcells,hc,hcs];rfl
theorem pv {W:World}{rest:List (String×DataW Unit)}(h:laidMet Tryz.prog (("internal/strconv.uint64pow10",Rows.laid_internal_strconv_uint64pow10) ::rest) W) :Lib.TabIs Tryz.prog W "internal/strconv.uint64pow10" .u64 Lib.pow10Tab:=by
 have e: (Rows.laid_internal_strconv_uint64pow10:DataW Unit) =Lib.tabData .u64 Lib.pow10Tab:=by kernel_rfl
 rw[e]at h;exact Lib.tabIs_of_head (P:=Tryz.prog) (by kernel_rfl:Tryz.prog.globalNamed "internal/strconv.uint64pow10"=some 3) (by kernel_rfl: (Tryz.prog.globals[3]?).map (·.type) =some 304) Tryz.underlying304 Tryz.underlying287 (by kernel_rfl) (by kernel_rfl) h
theorem pz {W:World}{rest:List (String×DataW Unit)}(h:laidMet Tryz.prog (("paxtar/fit.types",Rows.laid_paxtar_fit_types) ::rest) W) :Lib.TabIs Tryz.prog W "paxtar/fit.types" .u8 [53,48,50,49] :=by
 have e: (Rows.laid_paxtar_fit_types:DataW Unit) =Lib.tabData .u8 [53,48,50,49] :=by kernel_rfl
 rw[e]at h;exact Lib.tabIs_of_head (P:=Tryz.prog) yA (by kernel_rfl: (Tryz.prog.globals[0]?).map (·.type) =some 229) Tryz.underlying229 Tryz.underlying5 (by kernel_rfl) (by kernel_rfl) h
theorem star: "*"++ "errors.errorString"= "*errors.errorString":=by decide
theorem KZ (u:TypeId)(h:Tryz.prog.typeName? 3 u=some "*errors.errorString") :u=333:=
 typeName_ptr_named (nm:= "errors.errorString") (by rw[star];kernel_rfl) (by kernel_rfl) (by decide) u (by rw[star];exact h)
theorem gR {W:World}{a b:String×DataW Unit}(h:laidMetH Tryz.prog [a,b,("internal/strconv.uint64pow10",Rows.laid_internal_strconv_uint64pow10),("strconv.ErrRange",Rows.laid_strconv_ErrRange),("strconv.ErrSyntax",Rows.laid_strconv_ErrSyntax),("paxtar/paxrec.keys",Rows.laid_paxtar_paxrec_keys),("paxtar/fit.types",Rows.laid_paxtar_fit_types)] W)
 (hp: ([a,b,("internal/strconv.uint64pow10",Rows.laid_internal_strconv_uint64pow10),("strconv.ErrRange",Rows.laid_strconv_ErrRange),("strconv.ErrSyntax",Rows.laid_strconv_ErrSyntax),("paxtar/paxrec.keys",Rows.laid_paxtar_paxrec_keys),("paxtar/fit.types",Rows.laid_paxtar_fit_types)].all fun x=>x.2.handleName?.isNone) =true) :fb W:=by
 rw[MakeChecks.laidMetH_plain _ _ _ hp]at h;have h1:=h.tail.tail;have h2:=h1.tail;have h3:=h2.tail;have h4:=h3.tail;obtain⟨k0,k1,k2⟩:=mZ h4;obtain⟨a0,s0,hr,-,-,-⟩:=laid_sentinel h2 DU (by kernel_rfl: (Tryz.prog.globals[5]?).map (·.type) =some 279) Tryz.underlying279 KZ Tryz.underlying333 Tryz.underlying335 rfl rfl Tryz.underlying9 (by kernel_rfl) (by kernel_rfl);obtain⟨a1,s1,hs,-,-,-⟩:=laid_sentinel h3 Fl (by kernel_rfl: (Tryz.prog.globals[4]?).map (·.type) =some 279) Tryz.underlying279 KZ Tryz.underlying333 Tryz.underlying335 rfl rfl Tryz.underlying9 (by kernel_rfl) (by kernel_rfl);exact⟨⟨⟨pv h1,k0,k1,k2⟩,pz h4.tail⟩,⟨_,_,hs⟩,⟨_,_,hr⟩⟩
end Go.Proofs.YtcjagakckffkiaaGreatDoor.Fit
namespace Go.Proofs.YtcjagakckffkiaaGreatDoor.Pnm
open Go.RowKit
theorem jJ {z:Int}(h1:0<=z)(h2:z<=9223372036854775807) :IntKind.i64.wrap z=z:=by
 have hb:IntKind.i64.bits=64:=rfl;have hs:IntKind.i64.signed=true:=rfl;unfold IntKind.wrap;simp only[hb,hs,Bool.true_and];have e: (2:Int) ^64=18446744073709551616:=by decide
 have e': (2:Int) ^ (64- 1) =9223372036854775808:=by decide
 rw[e,e',Int.emod_eq_of_lt h1 (by omega),if_neg (by simp;omega)]
theorem ch {s t:ByteArray}(h:¬s=t) : (s.toList==t.toList) =false:=by
 rw[beq_eq_false_iff_ne]
 exact fun e=>h (by
  apply ByteArray.ext;apply Array.ext';rw[ByteArray.toList_eq,ByteArray.toList_eq]at e;exact e)
theorem ed {s:ByteArray}(h:¬s= {data:= #[]}) :s.toList.isEmpty=false:=by
 have h1:=ch h;have e: ({data:= #[]} :ByteArray).toList= [] :=by rw[ByteArray.toList_eq]
 rw[e]at h1
 cases hl:s.toList with
 |nil=>rw[hl]at h1;simp at h1
 |cons x xs=>rfl
theorem fV (s t:ByteArray) :af (s++t) =af s++af t:=by
 unfold af;rw[ByteArray.data_append,Array.toList_append,List.map_append]
theorem je (s:ByteArray)(j:Nat)(h:j<s.size) : (af s).getD j 0= (s[j].toNat:Int) :=by
 have h1: (af s)[j]? =some (s[j].toNat:Int) :=by
  unfold af;rw[List.getElem?_map,Array.getElem?_toList,Array.getElem?_eq_getElem (by exact h)];rfl
 rw[List.getD_eq_getElem?_getD,h1];rfl
theorem iQ (s:ByteArray)(a b:Nat) :af (s.extract a b) = ((af s).drop a).take (b- a) :=by
 unfold af;rw[ByteArray.data_extract,Array.toList_extract,List.extract_eq_take_drop,List.map_take,List.map_drop]
theorem iw (s:ByteArray)(a b:Nat) :s.extract a b=strOfNums (((af s).drop a).take (b- a)) :=by
 rw[<- iQ,az]
end Go.Proofs.YtcjagakckffkiaaGreatDoor.Pnm
namespace Go.Proofs.YtcjagakckffkiaaGreatDoor.Pnm
open Go.RowKit
theorem eN {s t:ByteArray}(h:af s=af t) :s=t:=by rw[<- az s,<- az t,h]
theorem Ds {l:List Int}{x:Int}(h:x∈l) :∃i,i<l.length/\l.getD i 0=x:=by
 obtain⟨i,hi,e⟩:=List.getElem_of_mem h;exact⟨i,hi,by rw[List.getD_eq_getElem?_getD,List.getElem?_eq_getElem hi];exact e⟩
theorem Dk {zs:List Int}{a j:Nat}(h:∀k,a<=k->k<j->zs.getD k 0≠47) : (47:Int)∉(zs.drop a).take (j- a) :=by
 intro hm;obtain⟨i,hi,he⟩:=Ds hm;rw[List.length_take,List.length_drop]at hi;rw[List.getD_eq_getElem?_getD,List.getElem?_take,if_pos (by omega),List.getElem?_drop,<- List.getD_eq_getElem?_getD]at he;exact h (a+i) (by omega) (by omega) he
theorem MM {zs:List Int}{a j:Nat}(ha:a<=j)(hj:j<zs.length)(h:zs.getD j 0=47) :zs.drop a= (zs.drop a).take (j- a) ++47::zs.drop (j+1) :=by
 have hg:zs[j] =47:=by rw[List.getD_eq_getElem?_getD,List.getElem?_eq_getElem hj]at h;exact h
 have e:zs.drop j=47::zs.drop (j+1) :=by rw[List.drop_eq_getElem_cons hj,hg]
 rw[<- e]
 conv=>lhs;rw[<- List.take_append_drop (j- a) (zs.drop a)]
 rw[List.drop_drop,show a+ (j- a) =j by omega]
end Go.Proofs.YtcjagakckffkiaaGreatDoor.Pnm
namespace Go.Proofs.YtcjagakckffkiaaGreatDoor.Pnm
open Go.RowKit Go.Shelf
attribute [local go_sem] Oper.semAt_some
def fq (s:ByteArray) :List ByteArray:= (cO (af s)).map strOfNums
set_option maxRecDepth 100000 in
theorem Fg (F:Fence)(n:Nat)(hf:F.fn 214)(hro:F.round=none)(hn:1<=n)(l Bp n₀:Nat)(s:ByteArray)(hs:s.size<=maxLen)(hb:Bp<n₀)(J Jx:List ByteArray->World->Prop)
 (hY:∀pre x W,J pre W->pre.length< (fq s).length->YieldAt F (n- 1) Tryz.prog l #[.string x] W fun e W'=>
   (e= .returned (.bool true)/\J (pre++ [x]) W'/\Below n₀ W W')\/ (e= .returned (.bool false)/\Jx (pre++ [x]) W'))
 (W:World)(hBp:W.cell? ⟨Bp,0,none⟩=some (.string s))(h0:J [] W) :
 CallsIn F n Tryz.prog 214 #[.func (.yield l) #[] #[],.pointer (some ⟨Bp,0,none⟩)] W fun e W'=> (∃v,e= .returned v)/\
  ((∃ys,ys=fq s/\J ys W')\/ (∃pre,pre<+:fq s/\Jx pre W')) :=by
 unfold maxLen at hs;have NL:=ad (an s);have HA:Hid (∀j (h:j<s.size),(af s).getD j 0= (s[j].toNat:Int)) :=je s;refine callsIn_of_wp Tryz.func214 rfl hf ?_ hro;simp only[Tryz.ntmps214,List.size_toArray,List.length_cons,List.length_nil,Nat.reduceAdd,Nat.reduceSub,Array.replicate_succ,Array.replicate_zero,List.push_toArray,List.append_toArray,List.nil_append,List.cons_append]
 gi_wp2
 gi_loopw [3,7] (fun f i wr=>∃(a j:Nat) (pre:List ByteArray),f= .int .i64 a/\i= .int .i64 j/\j<=s.size/\a<=j/\ (∀k,a<=k->k<j-> (af s).getD k 0≠47)/\pre++ (cO ((af s).drop a)).map strOfNums=fq s/\J pre wr/\Below n₀ W wr)
  (fun _ i _=>s.size+1- (intOf i).toNat)
 case atStart=>exact⟨0,0,[],rfl,rfl,Nat.zero_le _,ah,fun k _ h=>by omega,rfl,h0,aF⟩
 case round=>
  obtain⟨a,j,pre,rfl,rfl,hj,ha,hns,hpre,hJs,hnx⟩:=hrel;have HP:=ad hpre;have HN:=ad hns;have HJ:=ad hJs;have HX:=ad hnx;have hcell:wr.cell? ⟨Bp,0,none⟩=some (.string s) := (hnx.cell (p:=⟨Bp,0,none⟩) hb).trans hBp;clear hpre hns hJs hnx;have m1: (a:Int)<=j:=by omega
  have m0: (j:Int)<=s.size:=by omega
  have nsl:=ad (Dk (zs:=af s) HN.out);by_cases hlt:j<s.size
  ·have m3: (j:Int) <s.size:=by omega
   have hx:=HA.out j hlt;obtain⟨x,hxe⟩:∃x:Int,((s[j].toNat:Nat) :Int) =x:=⟨_,rfl⟩;rw[hxe]at hx;by_cases h47:x=47
   ·have m4: (x !=47) =false:=by rw[h47];rfl
    have cut:=MM (zs:=af s) ha (by rw[NL.out];exact hlt) (by rw[hx];exact h47)
    have e1:Hid ((pre++ [s.extract a j]) ++ (cO ((af s).drop (j+1))).map strOfNums=fq s) :=by
     show _=_;rw[<- HP.out,cut,Cb nsl.out,List.map_cons,iw,List.append_assoc];rfl
    have hlen:pre.length< (fq s).length:=by rw[<- e1.out];simp
    obtain⟨fn,tmps,assign,body,hy,hR⟩:=hY pre (s.extract a j) wr HJ.out hlen;clear hx h47 cut hlen
    gi_wp2
    refine hR.mono ?_;rintro e W3 (⟨rfl,hJ3,hk3⟩|⟨rfl,hJx3⟩)
    ·gi_wp2
     go_roundw
     case rel=>exact⟨j+1,j+1,pre++ [s.extract a j],by go_num,by go_num,by omega,ah,fun k h1 h2=>by omega,e1.out,hJ3,HX.out.trans hk3⟩
     case measure=>simp[intOf];omega
    ·gi_wp2
     refine bodyPost_ret (results_none rfl _ _ _) rfl ?_;exact⟨⟨_,rfl⟩,.inr ⟨_,⟨_,e1.out⟩,hJx3⟩⟩
   ·have m4: (x !=47) =true:=by simpa using h47
    have HX47:Hid ((af s).getD j 0≠47) :=by show _≠_;rw[hx];exact h47
    clear hx h47
    gi_wp2
    go_roundw
    case rel=>exact⟨a,j+1,pre,rfl,by go_num,by omega,by omega,fun k h1 h2=>by
     by_cases e:k=j
     ·rw[e];exact HX47.out
     ·exact HN.out k h1 (by omega),HP.out,HJ.out,HX.out⟩
    case measure=>simp[intOf];omega
  ·obtain rfl:j=s.size:=by omega
   have e1:Hid (pre++ [s.extract a s.size] =fq s) :=by
    show _=_;have e:=nsl.out;rw[List.take_of_length_le (by rw[List.length_drop,NL.out];exact ah)]at e;rw[<- HP.out,nV e,iw,List.take_of_length_le (by rw[List.length_drop,NL.out];exact ah)];rfl
   have hlen:pre.length< (fq s).length:=by rw[<- e1.out];simp
   obtain⟨fn,tmps,assign,body,hy,hR⟩:=hY pre (s.extract a s.size) wr HJ.out hlen;clear hlen
   gi_wp2
   refine hR.mono ?_;rintro e W3 (⟨rfl,hJ3,hk3⟩|⟨rfl,hJx3⟩)
   ·gi_wp2
    go_end0
    exact⟨⟨_,rfl⟩,.inl ⟨_,e1.out,hJ3⟩⟩
   ·gi_wp2
    go_end0
    exact⟨⟨_,rfl⟩,.inr ⟨_,⟨[],by rw[List.append_nil];exact e1.out⟩,hJx3⟩⟩
theorem Kz (F:Fence)(n:Nat)(hf:F.fn 190)(hro:F.round=none)(s:ByteArray)(w:World) :
 CallsIn F n Tryz.prog 190 #[.string s] w fun e w'=>e= .returned (.func (.func 214) #[] #[.pointer (some ⟨w.heap.size,0,none⟩)])/\w'=w.alloc (.cells #[.string s] 9) :=by
 refine callsIn_of_wp Tryz.func190 rfl hf ?_ hro;simp only[Tryz.ntmps190,List.size_toArray,List.length_cons,List.length_nil,Nat.reduceAdd,Nat.reduceSub,Array.replicate_succ,Array.replicate_zero,List.push_toArray,List.append_toArray,List.nil_append,List.cons_append]
 gi_wp2
 go_ret;exact⟨rfl,rfl⟩
theorem yG (F:Fence)(n:Nat)(hf:F.fn 214)(hro:F.round=none)(hn:1<=n)(Bp n₀:Nat)(s:ByteArray)(hs:s.size<=maxLen)(hb:Bp<n₀)(w:World)(hB:Bp<w.heap.size)
 (hc:w.cell? ⟨Bp,0,none⟩=some (.string s)) :
 SeqStopsK F n Tryz.prog 214 #[.pointer (some ⟨Bp,0,none⟩)] (fun x:ByteArray=> #[Value.string x]) (Below n₀) (fun ys=>ys=fq s) (fun pre=>pre<+:fq s) (fq s).length w:=fun l J Jx W hW _ _ hY h0=>
 Fg F n hf hro hn l Bp n₀ s hs hb J Jx hY W ((hW.cell (p:=⟨Bp,0,none⟩) hB).trans hc) h0
end Go.Proofs.YtcjagakckffkiaaGreatDoor.Pnm
namespace Go.Proofs.YtcjagakckffkiaaGreatDoor.Pnm
open Go.RowKit
theorem wI (s:ByteArray)(j:Nat)(h:j<s.size) : (af s).drop j= (s[j].toNat:Int) :: (af s).drop (j+1) :=by
 have hl:j< (af s).length:=by rw[an];exact h
 rw[List.drop_eq_getElem_cons hl];have:=je s j h;rw[List.getD_eq_getElem?_getD,List.getElem?_eq_getElem hl]at this;rw[<- this];rfl
theorem mQ (s:ByteArray) : (af s).drop s.size= [] :=by rw[List.drop_eq_nil_iff,an];exact ah
end Go.Proofs.YtcjagakckffkiaaGreatDoor.Pnm
namespace Go.Proofs.YtcjagakckffkiaaGreatDoor.Pnm
open Go.RowKit Go.Shelf
attribute [local go_sem] Oper.semAt_some
theorem oH {z:Int}(hz:z≠47) :∀zs:List Int,z∈zs↔∃c∈cO zs,z∈c
 | [] =>by simp[cO]
 |y::zs=>by
  have ih:=oH hz zs;unfold cO;by_cases h:y=47
  ·rw[if_pos h,List.mem_cons,ih];constructor
   ·rintro(e|⟨c,hc,h1⟩)
    ·exact absurd (e.trans h) hz
    ·exact⟨c,List.mem_cons_of_mem _ hc,h1⟩
   ·rintro⟨c,hc,h1⟩;rcases List.mem_cons.1 hc with rfl|hc
    ·cases h1
    ·exact .inr ⟨c,hc,h1⟩
  ·rw[if_neg h]
   cases hc:cO zs with
   |nil=>exact absurd hc (rI zs)
   |cons c cs=>
    rw[hc]at ih;simp only[List.mem_cons,exists_eq_or_imp]at ih⊢;rw[ih,or_assoc]
def mE (x:ByteArray) :Prop:=x= {data:= #[]}\/x= {data:= #[46]}\/x= {data:= #[46,46]}
instance (x:ByteArray) :Decidable (mE x) :=by unfold mE;infer_instance
theorem wJ (x:ByteArray) :mE x↔(af x= []\/af x= [46]\/af x= [46,46]) :=by
 unfold mE;constructor
 ·rintro(rfl|rfl|rfl)
  ·exact .inl rfl
  ·exact .inr (.inl rfl)
  ·exact .inr (.inr rfl)
 ·rintro(h|h|h)
  ·exact .inl (eN (h.trans rfl))
  ·exact .inr (.inl (eN (h.trans rfl)))
  ·exact .inr (.inr (eN (h.trans rfl)))
theorem tV {zs:List Int}{c:List Int}(hc:c∈cO zs){z:Int}(hz:z∈c) :z∈zs:=
 (oH (fun e=>sJ zs c hc (e▸hz)) zs).2 ⟨c,hc,hz⟩
theorem tB {s:ByteArray}{c:List Int}(hc:c∈cO (af s)) :af (strOfNums c) =c:=
 av fun z hz=>by
  have:=tV hc hz;rw[cm,List.mem_map]at this;obtain⟨b,_,rfl⟩:=this;have:=b.toNat_lt;omega
theorem lH (s:ByteArray) :fL (af s)↔(0:Int)∉af s/\∀x∈fq s,¬mE x:=by
 constructor
 ·intro h;refine⟨fun h0=>?_,fun x hx=>?_⟩
  ·obtain⟨c,hc,hz⟩:= (oH (by decide) _).1 h0;exact(h c hc).2.2.2 hz
  ·obtain⟨c,hc,rfl⟩:=List.mem_map.1 hx;rw[wJ,tB hc];obtain⟨h1,h2,h3,_⟩:=h c hc;rintro(e|e|e)
   ·exact h1 e
   ·exact h2 e
   ·exact h3 e
 ·rintro⟨h0,h⟩ c hc;have hb:=h _ (List.mem_map.2 ⟨c,hc,rfl⟩);rw[wJ,tB hc]at hb;exact⟨fun e=>hb (.inl e),fun e=>hb (.inr (.inl e)),fun e=>hb (.inr (.inr e)),fun hz=>h0 (tV hc hz)⟩
theorem xy (s:ByteArray)(k:Int)(hk:Lib.indexByte s.data.toList 0=k) : (0<=k↔(0:Int)∈af s) :=by
 rw[<- hk];exact GJ s 0
theorem Av (tmps:Array Value)(W:World)(g:Nat)(z:Int)(hp:tmps.getD 2 undef= .pointer (some ⟨g,0,none⟩))(hc:W.cell? ⟨g,0,none⟩=some (.int .i64 z)) :
 (results Tryz.f140 tmps).run Tryz.prog W= .ok (.int .i64 z) W:=by
 have hp':tmps[2]?.getD undef= .pointer (some ⟨g,0,none⟩) :=by simpa using hp
 simp[results,Tryz.f140,hp',go_sem,hc]
theorem xQ (s:ByteArray)(w:World)(h1: (65536:Int) <s.size) :Calls Tryz.prog 140 #[.string s] w fun e w'=>e= .returned (.int .i64 7)/\Below w.heap.size w w':=by
 go_enter Tryz.func140,Tryz.ntmps140;go_wp2;exact bodyPost_ret (Av _ _ w.heap.size 7 rfl (Boxed.new w 26 _).cell) rfl ⟨rfl,(Below.refl _ w).alloc ah _⟩
theorem xe (s:ByteArray)(w:World)(h1: (s.size:Int)<=65536)(hz: (0:Int)∈af s) :Calls Tryz.prog 140 #[.string s] w fun e w'=>e= .returned (.int .i64 6)/\Below w.heap.size w w':=by
 obtain⟨k,hk⟩:=named (Lib.indexByte s.data.toList 0);have hk0:= (xy s k hk.out.symm).2 hz;go_enter Tryz.func140,Tryz.ntmps140;go_wp2_with fail;refine(Tryz.strings_IndexByte s 0 _).mono ?_;rintro e w1 ⟨rfl,rfl⟩;rw[show(0:Int).toNat.toUInt8=0 from rfl,<- hk.out];go_wp2;exact bodyPost_ret (Av _ _ w.heap.size 6 rfl (Boxed.new w 26 _).cell) rfl ⟨rfl,(Below.refl _ w).alloc ah _⟩
theorem vU (x:ByteArray) : (mE x->x.toList.isEmpty=true\/ (x.toList.isEmpty=false/\ (x.toList== [46]) =true)\/ (x.toList.isEmpty=false/\ (x.toList== [46]) =false/\ (x.toList== [46,46]) =true))/\
 (¬mE x->x.toList.isEmpty=false/\ (x.toList== [46]) =false/\ (x.toList== [46,46]) =false) :=by
 have e1: ({data:= #[]} :ByteArray).toList= [] :=by rw[ByteArray.toList_eq]
 have e2: ({data:= #[46]} :ByteArray).toList= [46] :=by rw[ByteArray.toList_eq]
 have e3: ({data:= #[46,46]} :ByteArray).toList= [46,46] :=by rw[ByteArray.toList_eq]
 constructor
 ·rintro(rfl|rfl|rfl)
  ·rw[e1];decide
  ·rw[e2];decide
  ·rw[e3];decide
 ·intro h;refine⟨ed fun e=>h (.inl e),?_,?_⟩
  ·rw[<- e2];exact ch fun e=>h (.inr (.inl e))
  ·rw[<- e3];exact ch fun e=>h (.inr (.inr e))
set_option maxRecDepth 100000 in
theorem BH (s:ByteArray)(w:World)(h1: (s.size:Int)<=65536)(hz:¬(0:Int)∈af s)(R:Int)(hR0:Hid ((∀x∈fq s,¬mE x)->R=0))(hR6:Hid ((∃x∈fq s,mE x)->R=6)) :
 CallsIn Fence.wide 4 Tryz.prog 140 #[.string s] w fun e w'=>e= .returned (.int .i64 R)/\Below w.heap.size w w':=by
 obtain⟨k,hk⟩:=named (Lib.indexByte s.data.toList 0)
 have hk0:k<0:=by
  rcases Int.lt_or_le k 0 with h|h
  ·exact h
  ·exact absurd ((xy s k hk.out.symm).1 h) hz
 have hsz:s.size<=maxLen:=by unfold maxLen;omega
 clear hz;refine callsIn_of_wp_marks Tryz.func140 rfl trivial ?_ rfl;simp only[Tryz.ntmps140,List.size_toArray,List.length_cons,List.length_nil,Nat.reduceAdd,Nat.reduceSub,Array.replicate_succ,Array.replicate_zero,List.push_toArray,List.append_toArray,List.nil_append,List.cons_append]
 gi_wp2_with (first| (refine⟨trivial,?_⟩;gi_at_call 189;refine(callsIn_wide.2 (Tryz.strings_IndexByte s 0 _)).mono ?_;rintro e w1 ⟨rfl,rfl⟩;rw[show(0:Int).toNat.toUInt8=0 from rfl,<- hk.out]) | (refine⟨trivial,?_⟩;gi_at_call 190;refine(Kz Fence.wide 3 trivial rfl s _).mono ?_;rintro e w1 ⟨rfl,rfl⟩))
 have bR:=Boxed.new w 26 (.int .i64 0);have bN:=Boxed.new (w.alloc (.cells #[.int .i64 0] 26)) 9 (.string s);rw[World.size_alloc]at bN;have hB0:Below w.heap.size w ((w.alloc (.cells #[.int .i64 0] 26)).alloc (.cells #[.string s] 9)) := ((Below.refl _ w).alloc ah _).alloc (by simp) _
 refine wpIn_rangeFunc_ownG rfl (by decide) (gf:=214) (lb:= #[.pointer (some ⟨w.heap.size+1,0,none⟩)]) rfl trivial (enters_of Tryz.func214 (by kernel_rfl) rfl)
  (yG Fence.wide 3 trivial rfl (by decide) (w.heap.size+1) (w.heap.size+2) s hsz (by omega) _ (by simp) bN.cell) belowK_t (belowK_b (by simp)) aF (fun _=>rfl)
  (fun pre W=> ((∀x∈pre,¬mE x)/\W.cell? ⟨w.heap.size,0,none⟩=some (.int .i64 0)/\W.frozen? ⟨w.heap.size,0,none⟩=false)/\Below w.heap.size w W)
  (fun c pre W=> (c= .ret/\ (∃x∈pre,mE x)/\W.cell? ⟨w.heap.size,0,none⟩=some (.int .i64 6))/\Below w.heap.size w W)
  (OwnFrom.and (Own.from (fun s A B row hs hg hr=>⟨hs.1,cell_kept hs.2.1 hg hr,(frozen_kept hs.2.1 hg hr).trans hs.2.2⟩) _) (ownFrom_below ah (by simp;omega)))
  (fun c=>OwnFrom.and (Own.from (fun s A B row hs hg hr=>⟨hs.1,hs.2.1,cell_kept hs.2.2 hg hr⟩) _) (ownFrom_below ah (by simp;omega)))
  ⟨⟨by simp,(bR.alloc _).cell,(bR.alloc _).frozen⟩,hB0⟩
  (fun x=> {tmps:= #[.string s,undef,.pointer (some ⟨w.heap.size,0,none⟩),.string x,.bool (decide ((65536:Int) <s.size)),.string s,.int .i64 s.size,.bool (decide ((65536:Int) <s.size)),.bool (decide (0<=k)),.string s,.int .i64 k,.bool (decide (0<=k)),.string s,.func (.func 214) #[] #[.pointer (some ⟨w.heap.size+1,0,none⟩)],.string x,undef,undef,undef,undef,undef,undef,undef,undef,undef,undef],defers:= []}) ?assign ?body ?done ?stop
 case assign=>
  intro l x W K hK
  gi_wp2
  exact hK
 case body=>
  rintro l pre x W ⟨⟨hp,hc,hf⟩,hB⟩ _;have HP:=ad hp;have HB:=ad hB;clear hp hB;by_cases hb:mE x
  ·have HX:Hid (∃y∈pre++ [x],mE y) :=⟨x,by simp,hb⟩;rcases(vU x).1 hb with m1|⟨m1,m2⟩|⟨m1,m2,m3⟩
   all_goals
    clear hb
    gi_wp2
    exact⟨(KeepsOthers.setCell _ _ _).from _,⟨rfl,HX.out,World.cell?_setCell_same' _ _ _ (by rw[hc];rfl)⟩,HB.out.setCell (p:=⟨w.heap.size,0,none⟩) ah _⟩
  ·obtain⟨m1,m2,m3⟩:= (vU x).2 hb
   have HX:Hid (∀y∈pre++ [x],¬mE y) :=fun y hy=>by
    rcases List.mem_append.1 hy with h|h
    ·exact HP.out y h
    ·rw[List.mem_singleton.1 h];exact hb
   clear hb
   gi_wp2
   exact⟨(KeepsOthers.refl _).from _,aF,⟨HX.out,hc,hf⟩,HB.out⟩
 case done=>
  rintro D ys W hD rfl ⟨⟨hne,hc,hf⟩,hB⟩ hK;have e:=ad (hR0.out hne);clear hne
  gi_wp2
  have hK':= (KeepsOthers.setCell W ⟨w.heap.size,0,none⟩ (.int .i64 0)).same D _ hK rfl;refine⟨by simp,.inl ⟨_,_,rfl,run_takeDeferred hK',?_⟩⟩;have hc5:=cell_kept (World.cell?_setCell_same' W ⟨w.heap.size,0,none⟩ (.int .i64 0) (by rw[hc];rfl)) (grownBy_putObj' _ D (.deferred none)) (fun r e=>by cases e;exact⟨_,hK',rfl⟩);exact⟨_,Av _ _ w.heap.size 0 rfl hc5,by rw[e.out],(hB.setCell (p:=⟨w.heap.size,0,none⟩) ah _).trans (belowK_b (w:=w) ah _ D _ _ (by simp at hD;omega) hK' rfl rfl)⟩
 case stop=>
  rintro D c pre W hD hpre ⟨⟨rfl,⟨x,hx,hin⟩,hcr⟩,hB⟩ hK;have e:=ad (hR6.out ⟨x,hpre.subset hx,hin⟩)
  gi_wp2
  refine⟨by simp,.inl ⟨_,_,rfl,run_takeDeferred hK,?_⟩⟩;have hc5:=cell_kept hcr (grownBy_putObj' _ D (.deferred none)) (fun r e=>by cases e;exact⟨_,hK,rfl⟩);exact⟨_,Av _ _ w.heap.size 6 rfl hc5,by rw[e.out],hB.trans (belowK_b (w:=w) ah W D _ _ (by simp at hD;omega) hK rfl rfl)⟩
theorem Gp (s:ByteArray)(w:World)(_:s.size<=maxLen) :Calls Tryz.prog 140 #[.string s] w fun e w'=>e= .returned (.int .i64 (zj (af s)))/\Below w.heap.size w w':=by
 unfold zj;rw[an];by_cases h1:65536<s.size
 ·rw[if_pos h1];exact xQ s w (by omega)
 ·rw[if_neg h1];by_cases hz: (0:Int)∈af s
  ·rw[if_neg (fun h=> ((lH s).1 h).1 hz)];exact xe s w (by omega) hz
  ·refine callsIn_wide.1 (BH s w (by omega) hz _ ?_ ?_)
   ·exact ad fun h=>if_pos ((lH s).2 ⟨hz,h⟩)
   ·exact ad fun⟨x,hx,hb⟩=>if_neg fun h=> ((lH s).1 h).2 x hx hb
end Go.Proofs.YtcjagakckffkiaaGreatDoor.Pnm
namespace Go.Proofs.YtcjagakckffkiaaGreatDoor.Fit
open Go.RowKit bL Pnm
theorem DV (t:ByteArray) :dA (aQ,t) =iC t:=by unfold dA;rw[if_pos (.inl rfl)]
theorem vS (k:Int)(t:ByteArray)(w:World)(V:dF w)(ht:t.size<=maxLen) :Calls Tryz.prog 141 #[.int .i64 k,.string t] w fun e w'=>e= .returned (.int .i64 (vO k t))/\Below w.heap.size w w':=by
 have H1:=ad (bL.eG aQ t w V.v ht);have H2:=ad (Pnm.Gp t w ht);rw[DV]at H1;obtain⟨R,hR⟩:=named (vO k t);rw[<- hR.out];clear V ht;by_cases h2:k=2
 ·subst h2;have e:R=iC t:=by rw[hR.out];unfold vO;rw[if_pos rfl]
  rw[<- e]at H1;clear hR e H2;go_enter Tryz.func141,Tryz.ntmps141;go_wp2_with fail;refine H1.out.mono ?_;rintro e w1 ⟨rfl,b⟩;have B:=ad b;clear b;go_wp2;go_ret;exact⟨rfl,B.out⟩
 ·have n2: (k==2) =false:=by simpa using h2
  by_cases h3:k=3
  ·subst h3;have e:R=zj (af t) :=by rw[hR.out];unfold vO;rw[if_neg (by decide),if_pos rfl]
   rw[<- e]at H2;clear hR e H1;go_enter Tryz.func141,Tryz.ntmps141;go_wp2_with fail;refine H2.out.mono ?_;rintro e w1 ⟨rfl,b⟩;have B:=ad b;clear b;go_wp2;go_ret;exact⟨rfl,B.out⟩
  ·have n3: (k==3) =false:=by simpa using h3
   have e:R=if t=emp then 0 else 2:=by rw[hR.out];unfold vO;rw[if_neg h2,if_neg h3]
   clear hR H1 H2 h2 h3;by_cases ht:t=emp
   ·rw[if_pos ht]at e;subst e;subst ht;go_enter Tryz.func141,Tryz.ntmps141;go_wp2;go_ret;exact⟨rfl,aF⟩
   ·rw[if_neg ht]at e;have hi:=ed ht;clear ht;subst e;go_enter Tryz.func141,Tryz.ntmps141;go_wp2;go_ret;exact⟨rfl,aF⟩
theorem nX (k s:Int)(w:World) :Calls Tryz.prog 142 #[.int .i64 k,.int .i64 s] w fun e w'=>e= .returned (.int .i64 (pX k s))/\w=w':=by
 obtain⟨R,hR⟩:=named (pX k s);rw[<- hR.out];by_cases h1:k=1
 ·subst h1;have e:R=if s<0\/1099511627776<s then 3 else 0:=by rw[hR.out];unfold pX;rw[if_pos rfl]
  clear hR;by_cases c1:s<0
  ·rw[if_pos (.inl c1)]at e;subst e;go_enter Tryz.func142,Tryz.ntmps142;go_wp2;go_ret;exact⟨rfl,rfl⟩
  ·by_cases c2:1099511627776<s
   ·rw[if_pos (.inr c2)]at e;subst e;go_enter Tryz.func142,Tryz.ntmps142;go_wp2;go_ret;exact⟨rfl,rfl⟩
   ·rw[if_neg (by omega)]at e;subst e;go_enter Tryz.func142,Tryz.ntmps142;go_wp2;go_ret;exact⟨rfl,rfl⟩
 ·have n1: (k==1) =false:=by simpa using h1
  have n1': (k !=1) =true:=by simpa using h1
  have e:R=if s=0 then 0 else 2:=by rw[hR.out];unfold pX;rw[if_neg h1]
  clear hR h1;by_cases c1:s=0
  ·rw[if_pos c1]at e;subst e;subst c1;go_enter Tryz.func142,Tryz.ntmps142;go_wp2;go_ret;exact⟨rfl,rfl⟩
  ·rw[if_neg c1]at e;subst e;have n2: (s !=0) =true:=by simpa using c1
   go_enter Tryz.func142,Tryz.ntmps142;go_wp2;go_ret;exact⟨rfl,rfl⟩
set_option maxRecDepth 100000 in
theorem lV (k:Int)(p:ByteArray)(m:Int)(t:ByteArray)(s:Int)(w:World)(V:dF w)(hp:p.size<=maxLen)(ht:t.size<=maxLen) :
 Calls Tryz.prog 86 #[.agg (aR k p m t s).toArray] w fun e w'=>e= .returned (.int .i64 (dn ⟨k,p,m,t,s⟩))/\Below w.heap.size w w':=by
 obtain⟨R,hR⟩:=named (dn ⟨k,p,m,t,s⟩);obtain⟨E1,h1⟩:=named (zj (af p));obtain⟨E2,h2⟩:=named (vO k t);obtain⟨E3,h3⟩:=named (pX k s)
 have HR:Hid (R=if k<0\/4<=k then 8 else if E1≠0 then E1 else if m<0\/4095<m\/ (k=2/\m≠0)then 16 else if E2≠0 then E2 else E3) :=by
  show _=_;rw[hR.out,h1.out,h2.out,h3.out];rfl
 have C1:Hid (∀w',Calls Tryz.prog 140 #[.string p] w' fun e w''=>e= .returned (.int .i64 E1)/\Below w'.heap.size w' w'') :=fun w'=>by rw[h1.out];exact Pnm.Gp p w' hp
 have C2:Hid (∀w',Below w.heap.size w w'->Calls Tryz.prog 141 #[.int .i64 k,.string t] w' fun e w''=>e= .returned (.int .i64 E2)/\Below w'.heap.size w' w'') :=fun w' hb=>by rw[h2.out];exact vS k t w' (V.go hb) ht
 have C3:Hid (∀w',Calls Tryz.prog 142 #[.int .i64 k,.int .i64 s] w' fun e w''=>e= .returned (.int .i64 E3)/\w'=w'') :=fun w'=>by rw[h3.out];exact nX k s w'
 rw[<- hR.out];clear hR h1 h2 h3 V hp ht;by_cases k0:k<0
 ·have e:=HR.out;rw[if_pos (.inl k0)]at e;subst e;clear HR C1 C2 C3;go_enter Tryz.func86,Tryz.ntmps86;go_wp2_with (first| (refine aj rfl 68 _ rfl (aR k p m t s) rfl ?_;intro w1 g1 b1;have B1:=ad b1;have c0:=g1.get 0 rfl;clear g1 b1));go_ret;exact⟨rfl,B1.out⟩
 by_cases k4:4<=k
 ·have e:=HR.out;rw[if_pos (.inr k4)]at e;subst e;clear HR C1 C2 C3;go_enter Tryz.func86,Tryz.ntmps86;go_wp2_with (first| (refine aj rfl 68 _ rfl (aR k p m t s) rfl ?_;intro w1 g1 b1;have B1:=ad b1;have c0:=g1.get 0 rfl;clear g1 b1));go_ret;exact⟨rfl,B1.out⟩
 go_enter Tryz.func86,Tryz.ntmps86;go_wp2_with (first| (refine aj rfl 68 _ rfl (aR k p m t s) rfl ?_;intro w1 g1 b1;have H1:=ad g1;have B1:=ad b1;have c0:=g1.get 0 rfl;have c1:=g1.get 1 rfl;clear g1 b1));refine(C1.out w1).mono ?_;rintro e w2 ⟨rfl,b2⟩;have H2:=ad (H1.out.below b2 H1.out.lt);have B2:=ad (ar B1.out b2);clear b2 c0 c1;by_cases z1:E1=0
 ·subst z1
  have HR':Hid (R=if m<0\/4095<m\/ (k=2/\m≠0)then 16 else if E2≠0 then E2 else E3) :=by
   have e:=HR.out;rw[if_neg (by omega),if_neg (by simp)]at e;exact e
  clear HR;have c0:=H2.out.get 0 rfl;have c2:=H2.out.get 2 rfl;by_cases m0:m<0
  ·have e:=HR'.out;rw[if_pos (.inl m0)]at e;subst e;go_wp2_with fail;go_ret;exact⟨rfl,B2.out⟩
  by_cases m1:4095<m
  ·have e:=HR'.out;rw[if_pos (.inr (.inl m1))]at e;subst e;go_wp2_with fail;go_ret;exact⟨rfl,B2.out⟩
  by_cases k2:k=2/\m≠0
  ·have e:=HR'.out;rw[if_pos (.inr (.inr k2))]at e;subst e;obtain⟨rfl,hm⟩:=k2;have n2: (m !=0) =true:=by simpa using hm
   go_wp2_with fail;go_ret;exact⟨rfl,B2.out⟩
  have HR2:Hid (R=if E2≠0 then E2 else E3) :=by
   have e:=HR'.out;rw[if_neg (by omega)]at e;exact e
  clear HR';have c3:=H2.out.get 3 rfl
  have hk: (k==2) =false\/ (k=2/\m=0) :=by
   by_cases h:k=2
   ·exact .inr ⟨h,by omega⟩
   ·exact .inl (by simpa using h)
  clear C1 k0 k4 k2;rcases hk with n2|⟨rfl,rfl⟩
  all_goals
   go_wp2_with fail;refine(C2.out w2 B2.out).mono ?_;rintro e w3 ⟨rfl,b3⟩;have H3:=ad (H2.out.below b3 H2.out.lt);have B3:=ad (ar B2.out b3);clear b3 c0 c2 c3;by_cases z2:E2=0
   ·subst z2;have e:=HR2.out;rw[if_neg (by simp)]at e;subst e;have c0:=H3.out.get 0 rfl;have c4:=H3.out.get 4 rfl;go_wp2_with fail;refine(C3.out w3).mono ?_;rintro e w4 ⟨rfl,rfl⟩;go_wp2;go_ret;exact⟨rfl,B3.out⟩
   ·have e:=HR2.out;rw[if_pos z2]at e;subst e;have n3: (R !=0) =true:=by simpa using z2
    clear HR2 z2;go_wp2_with fail;go_ret;exact⟨rfl,B3.out⟩
 ·have e:=HR.out;rw[if_neg (by omega),if_pos z1]at e;subst e;have n1: (R !=0) =true:=by simpa using z1
  clear HR z1;go_wp2_with fail;go_ret;exact⟨rfl,B2.out⟩
end Go.Proofs.YtcjagakckffkiaaGreatDoor.Fit
