import Derived.Test.YtcjagakckffkiaaGreatDoorQ1
import Derived.Test.YtcjagakckffkiaaGreatDoorQ0
import Derived.Test.YtcjagakckffkiaaGreatDoorQ4
import Derived.Test.YtcjagakckffkiaaGreatDoorRows
import Derived.Test.YtcjagakckffkiaaGreatDoorQ2
import Derived.Lib.LaidTab
import Derived.ChangeArms
import Derived.Stop.LaidErr
import Derived.MakeChecks
import Derived.Shelf.Small.Strs
import Derived.Shelf.Small.Wraps
import Derived.Shelf.Strconv.Itoa0
import Derived.Shelf.Strconv.Itoa1
import Derived.Shelf.LaysM
import Derived.Shelf.Strconv.Itoa2
import Derived.Shelf.Strconv.Itoa3
import Derived.Shelf.Strconv.Itoa4
import Derived.Shelf.Strconv.ParseIntEmpty
import Derived.Shelf.Strconv.Clone
import Derived.Shelf.Strconv.SyntaxError
import Derived.Shelf.LaysC
import Derived.Shelf.Strconv.ToError
import Derived.Shelf.Strconv.Lower
import Derived.Shelf.Strconv.ParseUint10
import Derived.Shelf.Strconv.ParseUint10Empty
import Derived.Shelf.Strconv.ParseUint10Any
import Derived.Shelf.Strconv.ParseInt10
import Derived.Shelf.Strconv.RangeError
import Derived.Shelf.Strconv.ToErrorRange
import Derived.Shelf.Strconv.ParseUintEmpty
import Derived.Shelf.Strconv.ParseUint10b64
import Derived.Shelf.Strconv.ParseUint10b32
import Derived.Shelf.Strconv.ParseUint10b16
import Derived.Shelf.Strconv.ParseUint10b8
import Derived.Shelf.Strconv.ParseUint10At
import Derived.Shelf.Strconv.ParseInt10At64
import Derived.Shelf.Strconv.ParseInt10At32
import Derived.Shelf.Strconv.ParseInt10At16
import Derived.Shelf.Strconv.ParseInt10At8
import Derived.Shelf.Strconv.ParseInt10All
import Derived.Shelf.Strconv.ParseIntPublic10
import Derived.Shelf.Strconv.ErrVarParseInt
import Derived.Shelf.Strings.Search1
import Derived.Shelf.Strings.Search2
import Derived.Shelf.Strings.LastIndex
import Derived.Shelf.Strings.Prefix
import Derived.Shelf.Bytes.SlEqualAll
import Derived.Shelf.Bytes.Small
import Derived.Test.YtcjagakckffkiaaGreatDoorProg
import Derived.Test.YtcjagakckffkiaaGreatDoorQ5
import Derived.Lib.OthersKept
import Derived.Lib.BufferKept
set_option maxHeartbeats 16000000
namespace Go.Proofs.YtcjagakckffkiaaGreatDoor
open Go.RowKit
def ij (P:Program)(T:TypeId)(n:Nat) :Prop:= (∃fs,P.underlying T=some (.struct fs))/\ (P.info? T).map (·.size) =some n
section
variable {P:Program} {w:World} {ops:Array Oper} {rest:List Oper} {o:Oper} {a:Act} {Q:Exit->Act->World->Prop}
theorem aG (hgd:o.guard=none)(T:TypeId)(n:Nat)(hT:ij P T n)(x:Operand)(ho:o.op= .load T x)(g:Nat)(hx:a.eval x= .pointer (some ⟨g,0,none⟩))
 (T':TypeId)(vs:List Value)(hg:ak w g T' vs)(hl:vs.length=n)(K:wpList P ops Q rest (a.put o.dst (.agg vs.toArray)) w) :wpList P ops Q (o::rest) a w:=by
 obtain⟨⟨fs,h1⟩,h2⟩:=hT;exact wpList_load_row hgd T x ho g hx T' vs.toArray (0,0) (.struct fs) hg h1 rfl (by rw[h2];simp[hl]) K
theorem fh {T:TypeId}{n:Nat}(hT:ij P T n)(g:Nat)(T':TypeId)(vs:List Value)(hg:ak w g T' vs)(hl:vs.length=n) : (loadVar T ⟨g,0,none⟩).run P w= .ok (.agg vs.toArray) w:=by
 obtain⟨⟨fs,h1⟩,h2⟩:=hT;exact run_loadVar_row w g T' T vs.toArray (0,0) (.struct fs) hg h1 rfl (by rw[h2];simp[hl])
theorem aH {fn:Func}{p q:Tmp}{T:TypeId}{n:Nat}(h:fn.results= #[.cell p T,.tmp q])(hT:ij P T n)(tmps:Array Value)(g:Nat)(hp:tmps.getD p undef= .pointer (some ⟨g,0,none⟩))
 (T':TypeId)(vs:List Value)(hg:ak w g T' vs)(hl:vs.length=n) : (results fn tmps).run P w= .ok (.tuple #[.agg vs.toArray,tmps.getD q undef]) w:=by
 have hp':tmps[p]?.getD undef= .pointer (some ⟨g,0,none⟩) :=by simpa using hp
 simp[results,h,hp',asAddr,fh hT g T' vs hg hl]
theorem df {fn:Func}{p:Tmp}{T:TypeId}{n:Nat}(h:fn.results= #[.cell p T])(hT:ij P T n)(tmps:Array Value)(g:Nat)(hp:tmps.getD p undef= .pointer (some ⟨g,0,none⟩))
 (T':TypeId)(vs:List Value)(hg:ak w g T' vs)(hl:vs.length=n) : (results fn tmps).run P w= .ok (.agg vs.toArray) w:=by
 have hp':tmps[p]?.getD undef= .pointer (some ⟨g,0,none⟩) :=by simpa using hp
 simp[results,h,hp',asAddr,fh hT g T' vs hg hl]
end
end Go.Proofs.YtcjagakckffkiaaGreatDoor
namespace Go.Proofs.YtcjagakckffkiaaGreatDoor
open Go.RowKit
structure cX (w w':World) (g:Nat) :Prop where
 below:∀{B:Nat},B<=g->Below B w w'
 other:∀{k:Nat},k≠g->w'.heap[k]? =w.heap[k]?
 size:w'.heap.size=w.heap.size
theorem ak.aK {w w':World}{g k:Nat}{T:TypeId}{vs:List Value}(h:ak w k T vs)(t:cX w w' g)(hk:k≠g) :ak w' k T vs:= (t.other hk).trans h
theorem bx {w w':World}{base n size g:Nat}{e:TypeId}{v:Value}{xs:List Value}(h:w.ownsRow base e size v n xs)(t:cX w w' g)(hb:g<base) :w'.ownsRow base e size v n xs:=by
 obtain⟨h1,h2⟩:=h;refine⟨h1,?_⟩;rcases h2 with h2|⟨g',cap',cur,hv,hb',hh,r⟩
 ·exact Or.inl h2
 ·exact Or.inr ⟨g',cap',cur,hv,hb',by rw[t.other (by omega)];exact hh,r⟩
section
variable {P:Program} {w:World} {ops:Array Oper} {rest:List Oper} {o:Oper} {a:Act} {Q:Exit->Act->World->Prop}
theorem aw (hgd:o.guard=none)(T:TypeId)(x y:Operand)(ho:o.op= .store T x y)(g i:Nat)(hx:a.eval x= .pointer (some ⟨g,i,none⟩))
 (v:Value)(hy:a.eval y=v)(h1:v.oneCell'=true)(hs: (P.info? T).map (·.size) =some 1)(T':TypeId)(vs:List Value)(hg:ak w g T' vs)(hi:i<vs.length)
 (K:∀w',ak w' g T' (vs.set i v)->cX w w' g->wpList P ops Q rest (a.put o.dst undef) w') :wpList P ops Q (o::rest) a w:=by
 refine wpList_plain hgd fun K' hK=>?_;have hc:w.cell? ⟨g,i,none⟩=some vs[i] :=hg.get i (List.getElem?_eq_getElem hi);have hf:=hg.frozen i;have hv:v.cells= #[v] :=by cases v<;>first|rfl| (simp[Value.oneCell']at h1)
 cases hq:P.info? T with
 |none=>simp[hq]at hs
 |some j=>
  have hj:j.size=1:=by simpa [hq]using hs
  have ha: (⟨g,i,none⟩:Addr).add 0=⟨g,i,none⟩:=dC g i 0
  have hrun: (storeVar T ⟨g,i,none⟩ v).run P w= .ok () (w.setCell ⟨g,i,none⟩ v) :=by
   simp[storeVar,sizeOf,typeInfo,hq,hj,hv,storeCells,run_store P w _ v _ h1,ha,hc,hf]
  unfold Oper.wp execOp;simp only[ho,hx,hy,Instr.storeAt,Instr.sureAddr,Sem.run_bind,Sem.run_pure,Result.andThen_ok,hrun];exact hK _ _ (K _ (hg.set i v) ⟨fun hB=>aF.setCell hB v,fun hk=>Below.heap_setCell _ _ _ _ hk,by simp[World.setCell]⟩)
end
end Go.Proofs.YtcjagakckffkiaaGreatDoor
namespace Go.Proofs.YtcjagakckffkiaaGreatDoor.Ust
open Oct Cst jC
abbrev cr:List Go.Value:=bA 0 {data:= #[]} {data:= #[]} {data:= #[]} 0 0
end Go.Proofs.YtcjagakckffkiaaGreatDoor.Ust
namespace Go.Proofs.YtcjagakckffkiaaGreatDoor.Ust
open Go.RowKit
def uL:Array Field:= #[{name:= "Type",type:=5,offset:=0,embedded:=false,tag:= "",pkgPath:= "",byteOffset:=0},{name:= "Name",type:=9,offset:=1,embedded:=false,tag:= "",pkgPath:= "",byteOffset:=8},
 {name:= "Prefix",type:=9,offset:=2,embedded:=false,tag:= "",pkgPath:= "",byteOffset:=24},{name:= "Linkname",type:=9,offset:=3,embedded:=false,tag:= "",pkgPath:= "",byteOffset:=40},
 {name:= "Mode",type:=3,offset:=4,embedded:=false,tag:= "",pkgPath:= "",byteOffset:=56},{name:= "Size",type:=2,offset:=5,embedded:=false,tag:= "",pkgPath:= "",byteOffset:=64}]
theorem qZ {s t:ByteArray}(h:¬s=t) : (s.toList==t.toList) =false:=by
 rw[beq_eq_false_iff_ne]
 exact fun e=>h (by
  apply ByteArray.ext;apply Array.ext';rw[ByteArray.toList_eq,ByteArray.toList_eq]at e;exact e)
theorem zy (t:TypeId)(ht:Tryz.prog.underlying t=some (.struct uL))(hp:Tryz.prog.stoodInHeld t=false)(T:Int)(nm pf lk:ByteArray)(md sz:Int)(T':Int)(nm' pf' lk':ByteArray)(md' sz':Int)(w:World) :
 (Op.equalIn 10000 t (.agg (bA T nm pf lk md sz).toArray) (.agg (bA T' nm' pf' lk' md' sz').toArray)).run Tryz.prog w= .ok (decide (T=T'/\nm=nm'/\pf=pf'/\lk=lk'/\md=md'/\sz=sz')) w:=by
 have hf:Tryz.prog.fieldsOf t=uL:=by unfold Program.fieldsOf;rw[ht]
 rw[run_equalIn_struct w 9999 t _ _ (by rw[hf];exact ht) hp,hf];have u5:=Tryz.underlying5;have u9:=Tryz.underlying9;have u3:=Tryz.underlying3;have u2:=Tryz.underlying2;by_cases h1:T=T'
 ·subst h1;by_cases h2:nm=nm'
  ·subst h2;by_cases h3:pf=pf'
   ·subst h3;by_cases h4:lk=lk'
    ·subst h4;by_cases h5:md=md'
     ·subst h5;by_cases h6:sz=sz'
      ·subst h6;simp[uL,Op.eqFields,part,isAgg,u5,u9,u3,u2,go_sem]
      ·simp[uL,Op.eqFields,part,isAgg,u5,u9,u3,u2,h6,go_sem]
     ·simp[uL,Op.eqFields,part,isAgg,u5,u9,u3,u2,h5,go_sem]
    ·have:=qZ h4;simp[uL,Op.eqFields,part,isAgg,u5,u9,u3,u2,h4,this,go_sem]
   ·have:=qZ h3;simp[uL,Op.eqFields,part,isAgg,u5,u9,u3,u2,h3,this,go_sem]
  ·have:=qZ h2;simp[uL,Op.eqFields,part,isAgg,u5,u9,u3,u2,h2,this,go_sem]
 ·simp[uL,Op.eqFields,part,isAgg,u5,u9,u3,u2,h1,go_sem]
end Go.Proofs.YtcjagakckffkiaaGreatDoor.Ust
namespace Go.Proofs.YtcjagakckffkiaaGreatDoor.bL
open Go.RowKit
theorem sA {H:Type}{enc:TypeId×Value->H}{P:Program}{w:World}{base:Nat}{sp:Nat->Bool}{held:Bool}{fuel:Nat}{t e:TypeId}{n:Nat}{cs:List Value}{zs:List (List UInt8)}{p:List MemPlace}
 (ht:P.underlying t=some (.array n e))(he:P.underlying e=some .string)(hce:P.cellsOf e=1)(hct:P.cellsOf t=n)
 (h:DataW.trod enc P w base sp held fuel t cs=some (.agg (zs.map fun z=> .lit (.string z)),p)) :cs=zs.map fun z=>Value.string ⟨z.toArray⟩:=by
 cases fuel with
 |zero=>simp[DataW.trod]at h
 |succ fuel=>
  simp only[DataW.trod,ht,hce,hct,Nat.mul_one]at h
  split at h
  ·rename_i hl;obtain⟨xs,hm,hx⟩:=Option.map_eq_some_iff.1 h
   have hxs:xs.map (·.1) =zs.map fun z=> (DataW.lit (.string z) :DataW H) :=by
    have:=congrArg Prod.fst hx
    simpa using this
   have hxl:xs.length=n:=by simpa using Lib.mapM_length hm
   have hzl:zs.length=n:=by
    have:=congrArg List.length hxs;simp at this;omega
   apply List.ext_getElem?;intro i;by_cases hi:i<n
   ·obtain⟨b,hb,hf⟩:=Lib.mapM_at hm i i (by simp[hi]);obtain⟨z,hc,rfl,_⟩:=DataW.trod_string he hf
    have h1:cs[i]? =some (.string z) :=by
     have:=congrArg (·[0]?) hc
     simpa [List.getElem?_take,List.getElem?_drop]using this
    have h2: (xs.map (·.1))[i]? =some (DataW.lit (.string z.data.toList) :DataW H) :=by simp[hb]
    rw[hxs]at h2;simp only[List.getElem?_map,Option.map_eq_some_iff,DataW.lit.injEq,Lit.string.injEq]at h2;obtain⟨z',hz',e⟩:=h2;subst e;simp[h1,hz']
   ·rw[List.getElem?_eq_none (by omega),List.getElem?_eq_none (by simp;omega)]
  ·cases h
structure iX (w:World) :Prop where
 Ir:Lib.TabIs Tryz.prog w "internal/strconv.uint64pow10" .u64 Lib.pow10Tab
 k0:w.cell? ⟨2,0,none⟩=some (.string aQ)
 k1:w.cell? ⟨2,1,none⟩=some (.string aM)
 k2:w.cell? ⟨2,2,none⟩=some (.string aS)
theorem vz {w:World}{b o:Nat}{v:Value}(h:w.cell? ⟨b,o,none⟩=some v) :b<w.heap.size:=by
 rcases Nat.lt_or_ge b w.heap.size with h'|h'
 ·exact h'
 ·rw[World.cell?]at h;simp[Array.getElem?_eq_none h']at h
theorem zk {w:World}(h:Lib.TabIs Tryz.prog w "internal/strconv.uint64pow10" .u64 Lib.pow10Tab) :3<w.heap.size:=by
 unfold Lib.TabIs World.var? at h;rw[show Tryz.prog.globalNamed "internal/strconv.uint64pow10"=some 3 by kernel_rfl]at h;rcases Nat.lt_or_ge 3 w.heap.size with h'|h'
 ·exact h'
 ·simp[Array.getElem?_eq_none h']at h
theorem iX.below {w w':World}{B:Nat}(h:iX w)(hb:Below B w w')(hB:w.heap.size<=B) :iX w':=by
 have l0:=vz h.k0;have lt:=zk h.Ir;have l1:2<B:=Nat.lt_of_lt_of_le l0 hB;refine⟨?_,(hb.cell (p:=⟨2,0,none⟩) l1).trans h.k0,(hb.cell (p:=⟨2,1,none⟩) l1).trans h.k1,(hb.cell (p:=⟨2,2,none⟩) l1).trans h.k2⟩;have ht:=h.Ir;unfold Lib.TabIs World.var? at ht⊢;rw[show Tryz.prog.globalNamed "internal/strconv.uint64pow10"=some 3 by kernel_rfl]at ht⊢;rw[<- ht];simp only[Option.bind_some];rw[hb.block 3 (by omega)]
theorem iX.go {w w':World}(h:iX w)(hb:Below w.heap.size w w') :iX w':=h.below hb ah
end Go.Proofs.YtcjagakckffkiaaGreatDoor.bL
namespace Go.Proofs
def Tryz.xn:Go.Shelf.Ren:=⟨fun|106=>145|213=>195|265=>219|n=>n,fun|9=>9|3=>3|n=>n,fun|n=>n⟩
theorem Tryz.KY:Go.Proofs.Lays.n106 Tryz.prog Tryz.xn:= {
 mixed:=by kernel_rfl
 f106:=Tryz.func145.trans (congrArg some (by kernel_rfl))
 f213:=Tryz.func195.trans (congrArg some (by kernel_rfl))
 f265:=Tryz.func219.trans (congrArg some (by kernel_rfl))
 t3:=Tryz.underlying3
 a3:=Tryz.isAgg3
 z3:=Tryz.sizeOf3
 v3:=Tryz.zeroValue3
 t9:=Tryz.underlying9
 a9:=Tryz.isAgg9
 z9:=Tryz.sizeOf9
 v9:=Tryz.zeroValue9}
open Go.RowKit in
theorem Tryz.strings_Compare (a b:ByteArray)(w:World) :
 Calls Tryz.prog 145 #[.string a,.string b] w fun e w'=>e= .returned (.int .i64 (Lib.compareBytes a.data.toList b.data.toList))/\w'=w:=Any.strings_Compare Tryz.KY a b w
def Tryz.xh:Go.Shelf.Ren:=⟨fun|137=>189|217=>213|266=>239|n=>n,fun|9=>9|5=>5|3=>3|n=>n,fun|n=>n⟩
theorem Tryz.IU:Go.Proofs.Lays.n137 Tryz.prog Tryz.xh:= {
 mixed:=by kernel_rfl
 f137:=Tryz.func189.trans (congrArg some (by kernel_rfl))
 f217:=Tryz.func213.trans (congrArg some (by kernel_rfl))
 f266:=Tryz.func239.trans (congrArg some (by kernel_rfl))
 t3:=Tryz.underlying3
 a3:=Tryz.isAgg3
 z3:=Tryz.sizeOf3
 v3:=Tryz.zeroValue3
 t5:=Tryz.underlying5
 a5:=Tryz.isAgg5
 z5:=Tryz.sizeOf5
 v5:=Tryz.zeroValue5
 t9:=Tryz.underlying9
 a9:=Tryz.isAgg9
 z9:=Tryz.sizeOf9
 v9:=Tryz.zeroValue9}
open Go.RowKit in
theorem Tryz.strings_IndexByte (s:ByteArray)(c:Int)(w:World) :
 Calls Tryz.prog 189 #[.string s,.int .u8 c] w fun e w'=>e= .returned (.int .i64 (Lib.indexByte s.data.toList c.toNat.toUInt8))/\w'=w:=Any.strings_IndexByte Tryz.IU s c w
def Tryz.wZ:Go.Shelf.Ren:=⟨fun|104=>234|211=>253|207=>265|n=>n,fun|9=>9|4=>4|24=>117|3=>3|n=>n,fun|n=>n⟩
theorem Tryz.Jv:Go.Proofs.Lays.n104 Tryz.prog Tryz.wZ:= {
 mixed:=by kernel_rfl
 f104:=Tryz.func234.trans (congrArg some (by kernel_rfl))
 f207:=Tryz.func265.trans (congrArg some (by kernel_rfl))
 f211:=Tryz.func253.trans (congrArg some (by kernel_rfl))
 t3:=Tryz.underlying3
 a3:=Tryz.isAgg3
 z3:=Tryz.sizeOf3
 v3:=Tryz.zeroValue3
 t4:=Tryz.underlying4
 a4:=Tryz.isAgg4
 z4:=Tryz.sizeOf4
 v4:=Tryz.zeroValue4
 t9:=Tryz.underlying9
 a9:=Tryz.isAgg9
 z9:=Tryz.sizeOf9
 v9:=Tryz.zeroValue9
 t24:=Tryz.underlying117
 a24:=Tryz.isAgg117
 z24:=Tryz.sizeOf117
 v24:=Tryz.zeroValue117}
open Go.RowKit in
theorem Tryz.strings_CutSuffix (s p:ByteArray)(w:World)(hs:s.size<=9223372036854775807) :
 Calls Tryz.prog 234 #[.string s,.string p] w fun e w'=>e= .returned (.tuple #[.string ⟨(Lib.trimSuffix s.data.toList p.data.toList).toArray⟩,.bool (Lib.hasSuffix s.data.toList p.data.toList)])/\w'=w:=Any.strings_CutSuffix Tryz.Jv s p w hs
def Tryz.vD:Go.Shelf.Ren:=⟨fun|171=>200|243=>225|246=>197|283=>220|284=>221|285=>222|286=>223|129=>242|317=>241|318=>243|319=>244|320=>245|337=>259|338=>260|n=>n,fun|3=>3|9=>9|2=>2|4=>4|171=>286|0=>0|53=>287|37=>25|5=>5|173=>290|212=>304|51=>305|20=>20|213=>306|46=>285|232=>330|233=>331|n=>n,fun|17=>3|18=>6|19=>7|n=>n⟩
theorem Tryz.DZ:Go.Proofs.LaysM.n171 Tryz.prog Tryz.vD:= {
 mixed:=by kernel_rfl
 f129:=Tryz.func242.trans (congrArg some (by kernel_rfl))
 f171:=Tryz.func200.trans (congrArg some (by kernel_rfl))
 f243:=Tryz.func225.trans (congrArg some (by kernel_rfl))
 f246:=Tryz.func197.trans (congrArg some (by kernel_rfl))
 f283:=Tryz.func220.trans (congrArg some (by kernel_rfl))
 f284:=Tryz.func221.trans (congrArg some (by kernel_rfl))
 f285:=Tryz.func222.trans (congrArg some (by kernel_rfl))
 f286:=Tryz.func223.trans (congrArg some (by kernel_rfl))
 f317:=Tryz.func241.trans (congrArg some (by kernel_rfl))
 f318:=Tryz.func243.trans (congrArg some (by kernel_rfl))
 f319:=Tryz.func244.trans (congrArg some (by kernel_rfl))
 f320:=Tryz.func245.trans (congrArg some (by kernel_rfl))
 f337:=Tryz.func259.trans (congrArg some (by kernel_rfl))
 f338:=Tryz.func260.trans (congrArg some (by kernel_rfl))
 t0:=Tryz.underlying0
 a0:=Tryz.isAgg0
 z0:=Tryz.sizeOf0
 v0:=Tryz.zeroValue0
 t2:=Tryz.underlying2
 a2:=Tryz.isAgg2
 z2:=Tryz.sizeOf2
 v2:=Tryz.zeroValue2
 t3:=Tryz.underlying3
 a3:=Tryz.isAgg3
 z3:=Tryz.sizeOf3
 v3:=Tryz.zeroValue3
 t4:=Tryz.underlying4
 a4:=Tryz.isAgg4
 z4:=Tryz.sizeOf4
 v4:=Tryz.zeroValue4
 t5:=Tryz.underlying5
 a5:=Tryz.isAgg5
 z5:=Tryz.sizeOf5
 v5:=Tryz.zeroValue5
 t9:=Tryz.underlying9
 a9:=Tryz.isAgg9
 z9:=Tryz.sizeOf9
 v9:=Tryz.zeroValue9
 t20:=Tryz.underlying20
 a20:=Tryz.isAgg20
 z20:=Tryz.sizeOf20
 v20:=Tryz.zeroValue20
 t37:=Tryz.underlying25
 a37:=Tryz.isAgg25
 z37:=Tryz.sizeOf25
 v37:=Tryz.zeroValue25
 t46:=Tryz.underlying285
 a46:=Tryz.isAgg285
 z46:=Tryz.sizeOf285
 v46:=Tryz.zeroValue285
 t51:=Tryz.underlying305
 a51:=Tryz.isAgg305
 z51:=Tryz.sizeOf305
 v51:=Tryz.zeroValue305
 t53:=Tryz.underlying287
 a53:=Tryz.isAgg287
 z53:=Tryz.sizeOf287
 v53:=Tryz.zeroValue287
 t171:=Tryz.underlying286
 a171:=Tryz.isAgg286
 z171:=Tryz.sizeOf286
 v171:=Tryz.zeroValue286
 t173:=Tryz.underlying290
 a173:=Tryz.isAgg290
 z173:=Tryz.sizeOf290
 v173:=Tryz.zeroValue290
 t212:=Tryz.underlying304
 a212:=Tryz.isAgg304
 z212:=Tryz.sizeOf304
 v212:=Tryz.zeroValue304
 t213:=Tryz.underlying306
 a213:=Tryz.isAgg306
 z213:=Tryz.sizeOf306
 t232:=Tryz.underlying330
 a232:=Tryz.isAgg330
 z232:=Tryz.sizeOf330
 v232:=Tryz.zeroValue330
 t233:=Tryz.underlying331
 a233:=Tryz.isAgg331
 z233:=Tryz.sizeOf331
 v233:=Tryz.zeroValue331
 g17:=by kernel_rfl
 g18:=by kernel_rfl
 g19:=by kernel_rfl
 i0:=by kernel_rfl
 i2:=by kernel_rfl
 i3:=by kernel_rfl
 i4:=by kernel_rfl
 i5:=by kernel_rfl
 i9:=by kernel_rfl
 i20:=by kernel_rfl
 i37:=by kernel_rfl
 i46:=by kernel_rfl
 i51:=by kernel_rfl
 i53:=by kernel_rfl
 i171:=by kernel_rfl
 i173:=by kernel_rfl
 i212:=by kernel_rfl
 i232:=by kernel_rfl
 i233:=by kernel_rfl
 m17:=by kernel_rfl
 m18:=by kernel_rfl
 m19:=by kernel_rfl}
open Go.RowKit Go.Sort Go.Lib in
theorem Tryz.strconv_Itoa (n:Int)(h0: -9223372036854775808<=n)(h1:n<=9223372036854775807)(w:World)(htab:Lib.TabIs Tryz.prog w "internal/strconv.uint64pow10" .u64 Lib.pow10Tab) :
 Calls Tryz.prog 200 #[.int .i64 n] w fun e w'=>e= .returned (.string ⟨(Lib.itoa n).toArray⟩)/\∃k os,w'=grow (w.drewN k) os:=Any.strconv_Itoa Tryz.DZ n h0 h1 w htab
def Tryz.um:Go.Shelf.Ren:=⟨fun|173=>147|246=>197|283=>220|284=>221|285=>222|286=>223|129=>242|317=>241|318=>243|319=>244|320=>245|337=>259|338=>260|n=>n,fun|2=>2|3=>3|9=>9|4=>4|171=>286|0=>0|53=>287|37=>25|5=>5|173=>290|212=>304|51=>305|20=>20|213=>306|46=>285|232=>330|233=>331|n=>n,fun|17=>3|18=>6|19=>7|n=>n⟩
theorem Tryz.Fv:Go.Proofs.LaysM.n173 Tryz.prog Tryz.um:= {
 mixed:=by kernel_rfl
 f129:=Tryz.func242.trans (congrArg some (by kernel_rfl))
 f173:=Tryz.func147.trans (congrArg some (by kernel_rfl))
 f246:=Tryz.func197.trans (congrArg some (by kernel_rfl))
 f283:=Tryz.func220.trans (congrArg some (by kernel_rfl))
 f284:=Tryz.func221.trans (congrArg some (by kernel_rfl))
 f285:=Tryz.func222.trans (congrArg some (by kernel_rfl))
 f286:=Tryz.func223.trans (congrArg some (by kernel_rfl))
 f317:=Tryz.func241.trans (congrArg some (by kernel_rfl))
 f318:=Tryz.func243.trans (congrArg some (by kernel_rfl))
 f319:=Tryz.func244.trans (congrArg some (by kernel_rfl))
 f320:=Tryz.func245.trans (congrArg some (by kernel_rfl))
 f337:=Tryz.func259.trans (congrArg some (by kernel_rfl))
 f338:=Tryz.func260.trans (congrArg some (by kernel_rfl))
 t0:=Tryz.underlying0
 a0:=Tryz.isAgg0
 z0:=Tryz.sizeOf0
 v0:=Tryz.zeroValue0
 t2:=Tryz.underlying2
 a2:=Tryz.isAgg2
 z2:=Tryz.sizeOf2
 v2:=Tryz.zeroValue2
 t3:=Tryz.underlying3
 a3:=Tryz.isAgg3
 z3:=Tryz.sizeOf3
 v3:=Tryz.zeroValue3
 t4:=Tryz.underlying4
 a4:=Tryz.isAgg4
 z4:=Tryz.sizeOf4
 v4:=Tryz.zeroValue4
 t5:=Tryz.underlying5
 a5:=Tryz.isAgg5
 z5:=Tryz.sizeOf5
 v5:=Tryz.zeroValue5
 t9:=Tryz.underlying9
 a9:=Tryz.isAgg9
 z9:=Tryz.sizeOf9
 v9:=Tryz.zeroValue9
 t20:=Tryz.underlying20
 a20:=Tryz.isAgg20
 z20:=Tryz.sizeOf20
 v20:=Tryz.zeroValue20
 t37:=Tryz.underlying25
 a37:=Tryz.isAgg25
 z37:=Tryz.sizeOf25
 v37:=Tryz.zeroValue25
 t46:=Tryz.underlying285
 a46:=Tryz.isAgg285
 z46:=Tryz.sizeOf285
 v46:=Tryz.zeroValue285
 t51:=Tryz.underlying305
 a51:=Tryz.isAgg305
 z51:=Tryz.sizeOf305
 v51:=Tryz.zeroValue305
 t53:=Tryz.underlying287
 a53:=Tryz.isAgg287
 z53:=Tryz.sizeOf287
 v53:=Tryz.zeroValue287
 t171:=Tryz.underlying286
 a171:=Tryz.isAgg286
 z171:=Tryz.sizeOf286
 v171:=Tryz.zeroValue286
 t173:=Tryz.underlying290
 a173:=Tryz.isAgg290
 z173:=Tryz.sizeOf290
 v173:=Tryz.zeroValue290
 t212:=Tryz.underlying304
 a212:=Tryz.isAgg304
 z212:=Tryz.sizeOf304
 v212:=Tryz.zeroValue304
 t213:=Tryz.underlying306
 a213:=Tryz.isAgg306
 z213:=Tryz.sizeOf306
 t232:=Tryz.underlying330
 a232:=Tryz.isAgg330
 z232:=Tryz.sizeOf330
 v232:=Tryz.zeroValue330
 t233:=Tryz.underlying331
 a233:=Tryz.isAgg331
 z233:=Tryz.sizeOf331
 v233:=Tryz.zeroValue331
 g17:=by kernel_rfl
 g18:=by kernel_rfl
 g19:=by kernel_rfl
 i0:=by kernel_rfl
 i2:=by kernel_rfl
 i3:=by kernel_rfl
 i4:=by kernel_rfl
 i5:=by kernel_rfl
 i9:=by kernel_rfl
 i20:=by kernel_rfl
 i37:=by kernel_rfl
 i46:=by kernel_rfl
 i51:=by kernel_rfl
 i53:=by kernel_rfl
 i171:=by kernel_rfl
 i173:=by kernel_rfl
 i212:=by kernel_rfl
 i232:=by kernel_rfl
 i233:=by kernel_rfl
 m17:=by kernel_rfl
 m18:=by kernel_rfl
 m19:=by kernel_rfl}
open Go.RowKit Go.Sort Go.Lib in
theorem Tryz.strconv_FormatInt_10 (n:Int)(h0: -9223372036854775808<=n)(h1:n<=9223372036854775807)(w:World)(htab:Lib.TabIs Tryz.prog w "internal/strconv.uint64pow10" .u64 Lib.pow10Tab) :
 Calls Tryz.prog 147 #[.int .i64 n,.int .i64 10] w fun e w'=>e= .returned (.string ⟨(Lib.itoa n).toArray⟩)/\∃k os,w'=grow (w.drewN k) os:=Any.strconv_FormatInt_10 Tryz.Fv n h0 h1 w htab
def Tryz.uF:Go.Shelf.Ren:=⟨fun|174=>209|247=>235|245=>236|287=>254|279=>255|280=>256|281=>257|282=>258|321=>266|322=>267|316=>268|171=>200|205=>269|243=>225|246=>197|283=>220|284=>221|285=>222|286=>223|129=>242|317=>241|318=>243|319=>244|320=>245|337=>259|338=>260|n=>n,fun|9=>9|3=>3|2=>2|75=>279|85=>280|4=>4|167=>315|5=>5|53=>287|175=>316|46=>285|168=>318|37=>25|0=>0|210=>328|21=>21|127=>332|145=>335|143=>333|171=>286|173=>290|212=>304|51=>305|20=>20|213=>306|232=>330|233=>331|80=>342|n=>n,fun|15=>4|16=>5|17=>3|18=>6|19=>7|n=>n⟩
theorem Tryz.sf:Go.Proofs.LaysC.n174 Tryz.prog Tryz.uF:= {
 mixed:=by kernel_rfl
 f129:=Tryz.func242.trans (congrArg some (by kernel_rfl))
 f171:=Tryz.func200.trans (congrArg some (by kernel_rfl))
 f174:=Tryz.func209.trans (congrArg some (by kernel_rfl))
 f205:=Tryz.func269.trans (congrArg some (by kernel_rfl))
 f243:=Tryz.func225.trans (congrArg some (by kernel_rfl))
 f245:=Tryz.func236.trans (congrArg some (by kernel_rfl))
 f246:=Tryz.func197.trans (congrArg some (by kernel_rfl))
 f247:=Tryz.func235.trans (congrArg some (by kernel_rfl))
 f279:=Tryz.func255.trans (congrArg some (by kernel_rfl))
 f280:=Tryz.func256.trans (congrArg some (by kernel_rfl))
 f281:=Tryz.func257.trans (congrArg some (by kernel_rfl))
 f282:=Tryz.func258.trans (congrArg some (by kernel_rfl))
 f283:=Tryz.func220.trans (congrArg some (by kernel_rfl))
 f284:=Tryz.func221.trans (congrArg some (by kernel_rfl))
 f285:=Tryz.func222.trans (congrArg some (by kernel_rfl))
 f286:=Tryz.func223.trans (congrArg some (by kernel_rfl))
 f287:=Tryz.func254.trans (congrArg some (by kernel_rfl))
 f316:=Tryz.func268.trans (congrArg some (by kernel_rfl))
 f317:=Tryz.func241.trans (congrArg some (by kernel_rfl))
 f318:=Tryz.func243.trans (congrArg some (by kernel_rfl))
 f319:=Tryz.func244.trans (congrArg some (by kernel_rfl))
 f320:=Tryz.func245.trans (congrArg some (by kernel_rfl))
 f321:=Tryz.func266.trans (congrArg some (by kernel_rfl))
 f322:=Tryz.func267.trans (congrArg some (by kernel_rfl))
 f337:=Tryz.func259.trans (congrArg some (by kernel_rfl))
 f338:=Tryz.func260.trans (congrArg some (by kernel_rfl))
 t0:=Tryz.underlying0
 a0:=Tryz.isAgg0
 z0:=Tryz.sizeOf0
 v0:=Tryz.zeroValue0
 t2:=Tryz.underlying2
 a2:=Tryz.isAgg2
 z2:=Tryz.sizeOf2
 v2:=Tryz.zeroValue2
 t3:=Tryz.underlying3
 a3:=Tryz.isAgg3
 z3:=Tryz.sizeOf3
 v3:=Tryz.zeroValue3
 t4:=Tryz.underlying4
 a4:=Tryz.isAgg4
 z4:=Tryz.sizeOf4
 v4:=Tryz.zeroValue4
 t5:=Tryz.underlying5
 a5:=Tryz.isAgg5
 z5:=Tryz.sizeOf5
 v5:=Tryz.zeroValue5
 t9:=Tryz.underlying9
 a9:=Tryz.isAgg9
 z9:=Tryz.sizeOf9
 v9:=Tryz.zeroValue9
 t20:=Tryz.underlying20
 a20:=Tryz.isAgg20
 z20:=Tryz.sizeOf20
 v20:=Tryz.zeroValue20
 t21:=Tryz.underlying21
 a21:=Tryz.isAgg21
 z21:=Tryz.sizeOf21
 v21:=Tryz.zeroValue21
 t37:=Tryz.underlying25
 a37:=Tryz.isAgg25
 z37:=Tryz.sizeOf25
 v37:=Tryz.zeroValue25
 t46:=Tryz.underlying285
 a46:=Tryz.isAgg285
 z46:=Tryz.sizeOf285
 v46:=Tryz.zeroValue285
 t51:=Tryz.underlying305
 a51:=Tryz.isAgg305
 z51:=Tryz.sizeOf305
 v51:=Tryz.zeroValue305
 t53:=Tryz.underlying287
 a53:=Tryz.isAgg287
 z53:=Tryz.sizeOf287
 v53:=Tryz.zeroValue287
 t75:=Tryz.underlying279
 a75:=Tryz.isAgg279
 z75:=Tryz.sizeOf279
 v75:=Tryz.zeroValue279
 t85:=Tryz.underlying280
 a85:=Tryz.isAgg280
 z85:=Tryz.sizeOf280
 v85:=Tryz.zeroValue280
 t127:=Tryz.underlying332
 a127:=Tryz.isAgg332
 z127:=Tryz.sizeOf332
 v127:=Tryz.zeroValue332
 t143:=Tryz.underlying333
 a143:=Tryz.isAgg333
 z143:=Tryz.sizeOf333
 v143:=Tryz.zeroValue333
 t145:=Tryz.underlying335
 a145:=Tryz.isAgg335
 z145:=Tryz.sizeOf335
 v145:=Tryz.zeroValue335
 t167:=Tryz.underlying315
 a167:=Tryz.isAgg315
 z167:=Tryz.sizeOf315
 v167:=Tryz.zeroValue315
 t168:=Tryz.underlying318
 a168:=Tryz.isAgg318
 z168:=Tryz.sizeOf318
 v168:=Tryz.zeroValue318
 t171:=Tryz.underlying286
 a171:=Tryz.isAgg286
 z171:=Tryz.sizeOf286
 v171:=Tryz.zeroValue286
 t173:=Tryz.underlying290
 a173:=Tryz.isAgg290
 z173:=Tryz.sizeOf290
 v173:=Tryz.zeroValue290
 t175:=Tryz.underlying316
 a175:=Tryz.isAgg316
 z175:=Tryz.sizeOf316
 v175:=Tryz.zeroValue316
 t210:=Tryz.underlying328
 a210:=Tryz.isAgg328
 z210:=Tryz.sizeOf328
 v210:=Tryz.zeroValue328
 t212:=Tryz.underlying304
 a212:=Tryz.isAgg304
 z212:=Tryz.sizeOf304
 v212:=Tryz.zeroValue304
 t213:=Tryz.underlying306
 a213:=Tryz.isAgg306
 z213:=Tryz.sizeOf306
 t232:=Tryz.underlying330
 a232:=Tryz.isAgg330
 z232:=Tryz.sizeOf330
 v232:=Tryz.zeroValue330
 t233:=Tryz.underlying331
 a233:=Tryz.isAgg331
 z233:=Tryz.sizeOf331
 v233:=Tryz.zeroValue331
 g15:=by kernel_rfl
 g16:=by kernel_rfl
 g17:=by kernel_rfl
 g18:=by kernel_rfl
 g19:=by kernel_rfl
 t80:=Tryz.underlying342
 a80:=Tryz.isAgg342
 z80:=Tryz.sizeOf342
 v80:=Tryz.zeroValue342
 i0:=by kernel_rfl
 i2:=by kernel_rfl
 i3:=by kernel_rfl
 i4:=by kernel_rfl
 i5:=by kernel_rfl
 i9:=by kernel_rfl
 i20:=by kernel_rfl
 i21:=by kernel_rfl
 i37:=by kernel_rfl
 i46:=by kernel_rfl
 i51:=by kernel_rfl
 i53:=by kernel_rfl
 i75:=by kernel_rfl
 i80:=by kernel_rfl
 i85:=by kernel_rfl
 i127:=by kernel_rfl
 i143:=by kernel_rfl
 i145:=by kernel_rfl
 i167:=by kernel_rfl
 i168:=by kernel_rfl
 i171:=by kernel_rfl
 i173:=by kernel_rfl
 i175:=by kernel_rfl
 i210:=by kernel_rfl
 i212:=by kernel_rfl
 i232:=by kernel_rfl
 i233:=by kernel_rfl
 m15:=by kernel_rfl
 m16:=by kernel_rfl
 m17:=by kernel_rfl
 m18:=by kernel_rfl
 m19:=by kernel_rfl
 c0:=by kernel_rfl
 c2:=by kernel_rfl
 c3:=by kernel_rfl
 c4:=by kernel_rfl
 c5:=by kernel_rfl
 c9:=by kernel_rfl
 c20:=by kernel_rfl
 c21:=by kernel_rfl
 c37:=by kernel_rfl
 c46:=by kernel_rfl
 c51:=by kernel_rfl
 c53:=by kernel_rfl
 c75:=by kernel_rfl
 c80:=by kernel_rfl
 c85:=by kernel_rfl
 c127:=by kernel_rfl
 c143:=by kernel_rfl
 c145:=by kernel_rfl
 c167:=by kernel_rfl
 c168:=by kernel_rfl
 c171:=by kernel_rfl
 c173:=by kernel_rfl
 c175:=by kernel_rfl
 c210:=by kernel_rfl
 c212:=by kernel_rfl
 c213:=by kernel_rfl
 c232:=by kernel_rfl
 c233:=by kernel_rfl}
open Go.RowKit in
theorem Tryz.strconv_ParseInt_10_at64_ok (s:ByteArray)(hmax:s.size<=9223372036854775806)(v:Int)(h:Lib.parseIntB 64 s.data.toList= .ok v)(w:World) :
 Calls Tryz.prog 209 #[.string s,.int .i64 10,.int .i64 64] w fun e w'=>e= .returned (.tuple #[.int .i64 v,.nilIface])/\ (w'=w\/∃t,w'=Lib.bytesWorld w 5 t) :=Any.strconv_ParseInt_10_at64_ok Tryz.sf s hmax v h w
open Go.RowKit in
theorem Tryz.strconv_ParseInt_10_at64_syntax_var (s:ByteArray)(hlim:s.size<=281474976710656)(h:Lib.parseIntB 64 s.data.toList=Lib.parseIntB 64 [])(tp:TypeId)(p:Value)(w:World)(hvar:w.var? Tryz.prog "strconv.ErrSyntax"=some #[.iface tp p]) :
 Calls Tryz.prog 209 #[.string s,.int .i64 10,.int .i64 64] w fun e w'=>∃N,e= .returned (.tuple #[.int .i64 (0),.iface 318 (.pointer (some ⟨N,0,none⟩))])/\w.heap.size<=N/\w'.heap[N]? =some (.cells #[.string ⟨#[80,97,114,115,101,73,110,116]⟩,.string s,.iface tp p] 328 (0,0))/\Below w.heap.size w w':=Any.strconv_ParseInt_10_at64_syntax_var Tryz.sf s hlim h tp p w hvar
open Go.RowKit in
theorem Tryz.strconv_ParseInt_10_at64_range_var (s:ByteArray)(hlim:s.size<=281474976710656)(h:Lib.parseIntB 64 s.data.toList= .range)(tp:TypeId)(p:Value)(w:World)(hvar:w.var? Tryz.prog "strconv.ErrRange"=some #[.iface tp p]) :
 Calls Tryz.prog 209 #[.string s,.int .i64 10,.int .i64 64] w fun e w'=>∃N,e= .returned (.tuple #[.int .i64 (Lib.intSat 64 s.data.toList),.iface 318 (.pointer (some ⟨N,0,none⟩))])/\w.heap.size<=N/\w'.heap[N]? =some (.cells #[.string ⟨#[80,97,114,115,101,73,110,116]⟩,.string s,.iface tp p] 328 (0,0))/\Below w.heap.size w w':=Any.strconv_ParseInt_10_at64_range_var Tryz.sf s hlim h tp p w hvar
def Tryz.wB:Go.Shelf.Ren:=⟨fun|219=>264|217=>213|225=>272|224=>273|267=>274|266=>239|314=>276|n=>n,fun|9=>9|3=>3|4=>4|5=>5|46=>285|146=>336|51=>305|n=>n,fun|1=>1|n=>n⟩
theorem Tryz.Iv:Go.Proofs.Lays.n219 Tryz.prog Tryz.wB:= {
 mixed:=by kernel_rfl
 f217:=Tryz.func213.trans (congrArg some (by kernel_rfl))
 f219:=Tryz.func264.trans (congrArg some (by kernel_rfl))
 f224:=Tryz.func273.trans (congrArg some (by kernel_rfl))
 f225:=Tryz.func272.trans (congrArg some (by kernel_rfl))
 f266:=Tryz.func239.trans (congrArg some (by kernel_rfl))
 f267:=Tryz.func274.trans (congrArg some (by kernel_rfl))
 f314:=Tryz.func276.trans (congrArg some (by kernel_rfl))
 t3:=Tryz.underlying3
 a3:=Tryz.isAgg3
 z3:=Tryz.sizeOf3
 v3:=Tryz.zeroValue3
 t4:=Tryz.underlying4
 a4:=Tryz.isAgg4
 z4:=Tryz.sizeOf4
 v4:=Tryz.zeroValue4
 t5:=Tryz.underlying5
 a5:=Tryz.isAgg5
 z5:=Tryz.sizeOf5
 v5:=Tryz.zeroValue5
 t9:=Tryz.underlying9
 a9:=Tryz.isAgg9
 z9:=Tryz.sizeOf9
 v9:=Tryz.zeroValue9
 t46:=Tryz.underlying285
 a46:=Tryz.isAgg285
 z46:=Tryz.sizeOf285
 v46:=Tryz.zeroValue285
 t51:=Tryz.underlying305
 a51:=Tryz.isAgg305
 z51:=Tryz.sizeOf305
 v51:=Tryz.zeroValue305
 t146:=Tryz.underlying336
 a146:=Tryz.isAgg336
 z146:=Tryz.sizeOf336
 v146:=Tryz.zeroValue336
 g1:=by kernel_rfl}
open Go.RowKit Go.Lib in
theorem Tryz.stringslite_Index_one (s:ByteArray)(c:UInt8)(w:World) :
 Calls Tryz.prog 264 #[.string s,.string ⟨#[c]⟩] w fun e w'=>e= .returned (.int .i64 (Lib.indexByte s.data.toList c))/\w'=w:=Any.stringslite_Index_one Tryz.Iv s c w
end Go.Proofs
namespace Go.Proofs.YtcjagakckffkiaaGreatDoor.bL
open Go.RowKit
theorem sl (n:Nat) : (⟨(Lib.decDigits n).toArray⟩:ByteArray) =strOfNums (dq n) :=by
 rw[<- az ⟨(Lib.decDigits n).toArray⟩];rfl
theorem tm (n:Nat) : (strOfNums (dq n)).size=Lib.nDigits n:=by
 rw[<- sl,Lib.size_eq];exact Lib.decDigits_length n
theorem qA {B:Nat}(w:World)(k:Nat)(os:Array Obj)(hB:B<=w.heap.size) :Below B w (Sort.grow (w.drewN k) os) :=
 ⟨rfl,rfl,rfl,by simp[Sort.grow],fun i hi=>by
  show(w.heap++os)[i]? =w.heap[i]?;exact Array.getElem?_append_left (by omega)⟩
theorem xY (n:Nat)(hn:n<=9223372036854775807)(w:World)(V:iX w) :Calls Tryz.prog 200 #[.int .i64 (n:Int)] w fun e w'=>e= .returned (.string (strOfNums (dq n)))/\Below w.heap.size w w':=by
 refine(Tryz.strconv_Itoa (n:Int) (by omega) (by omega) w V.Ir).mono ?_;rintro e w' ⟨rfl,k,os,rfl⟩;refine⟨?_,qA w k os ah⟩;unfold Lib.itoa;rw[if_neg (by omega),Int.toNat_natCast,sl]
end Go.Proofs.YtcjagakckffkiaaGreatDoor.bL
namespace Go.Proofs.YtcjagakckffkiaaGreatDoor.bL
open Go.RowKit
def Gh (zs:List Int) :Int:=if cU zs=true then min (gi zs:Int) 1099511627777 else 0
theorem Iu {s:ByteArray}(h:∀k,k<s.size->48<= (af s).getD k 0/\ (af s).getD k 0<=57)(h0:s.size≠0)(hz: (af s).getD 0 0=48->s.size=1) :cU (af s) =true:=by
 rw[kW,an];exact⟨fun e=>h0 (by rw[<- an,e];rfl),h,hz⟩
theorem uG {s:ByteArray}{k:Nat}(hk:k<s.size)(h:¬(48<= (af s).getD k 0/\ (af s).getD k 0<=57)) :cU (af s) =false:=by
 rw[Bool.eq_false_iff];intro e;rw[kW,an]at e;exact h (e.2.1 k hk)
set_option maxRecDepth 100000 in
theorem vX (s:ByteArray)(w:World)(hs:s.size<=maxLen) :Calls Tryz.prog 233 #[.string s] w fun e w'=>
 e= .returned (.tuple #[.int .i64 (Gh (af s)),.bool (cU (af s))])/\Below w.heap.size w w':=by
 unfold maxLen at hs;obtain⟨R,hR⟩:=named (Gh (af s));obtain⟨B,hB⟩:=named (cU (af s));rw[<- hR.out,<- hB.out];have FB:Hid (cU (af s) =false->R=0/\B=false) :=fun h=>⟨by rw[hR.out];unfold Gh;rw[h];rfl,by rw[hB.out,h]⟩;have FG:Hid (cU (af s) =true->R=min (gi (af s) :Int) 1099511627777/\B=true) :=fun h=>⟨by rw[hR.out];unfold Gh;rw[if_pos h],by rw[hB.out,h]⟩;have HA:Hid (∀j (h:j<s.size),(af s).getD j 0= (s[j].toNat:Int)) :=je s;have NL:=ad (an s);clear hR hB;by_cases he:s= {data:= #[]}
 ·obtain⟨q1,q2⟩:=FB.out (by rw[he];rfl);have hl:s.toList= [] :=by rw[he,ByteArray.toList_eq]
  clear FG HA NL;have Q:=ad (And.intro q1 q2);have hi:s.toList.isEmpty=true:=by rw[hl];rfl
  clear q1 q2 he;go_enter Tryz.func233,Tryz.ntmps233;go_wp2;go_ret2;rw[Q.out.1,Q.out.2];exact⟨rfl,aF⟩
 ·have h0:0<s.size:=by
   rcases Nat.eq_zero_or_pos s.size with h|h
   ·exact absurd (eN (by rw[List.length_eq_zero_iff.1 ((NL.out).trans h)];rfl)) he
   ·exact h
  have hi:=ed he;have hx0:=HA.out 0 h0;obtain⟨x,hxe⟩:∃x:Int,((s[0].toNat:Nat) :Int) =x:=⟨_,rfl⟩;rw[hxe]at hx0;by_cases hz:x=48/\s≠{data:= #[48]}
  ·have hbad:cU (af s) =false:=by
    rw[Bool.eq_false_iff];intro e;rw[kW]at e;have h1:=e.2.2 (by rw[hx0];exact hz.1);apply hz.2;apply eN
    match hm:af s,h1 with
    | [y],_=>rw[hm]at hx0;change y=x at hx0;rw[hx0,hz.1];rfl
   have Q:=ad (FB.out hbad);have m1: (x==48) =true:=by rw[hz.1];rfl
   have m2: (s.toList== [48]) =false:=by
    have:=ch hz.2;rwa [show({data:= #[48]} :ByteArray).toList= [48] by rw[ByteArray.toList_eq]]at this
   clear FG HA NL FB hx0 hz hbad he;go_enter Tryz.func233,Tryz.ntmps233;go_wp2;go_ret2;rw[Q.out.1,Q.out.2];exact⟨rfl,aF⟩
  ·have hz1:Hid ((af s).getD 0 0=48->s.size=1) :=fun e=>by
    have:s= {data:= #[48]} :=by
     by_cases c:s= {data:= #[48]}
     ·exact c
     ·exact absurd ⟨by rw[<- hx0];exact e,c⟩ hz
    rw[this];rfl
   have hk0: (w.iter s 0).heap[w.heap.size]? =some (.stringIter s 0) :=World.iter_heap w s 0;have hb0:Below w.heap.size w (w.iter s 0) := (Below.refl _ w).alloc ah _;have hS0:s.size≠0:=by omega
   have HS0:=ad hS0
   have tests: ((x==48) =true/\ (s.toList== [48]) =true)\/ (x==48) =false:=by
    by_cases c:x=48
    ·refine .inl ⟨by rw[c];rfl,?_⟩
     have:s= {data:= #[48]} :=by
      by_cases c':s= {data:= #[48]}
      ·exact c'
      ·exact absurd ⟨c,c'⟩ hz
     rw[this,ByteArray.toList_eq];rfl
    ·exact .inr (by simpa using c)
   clear hx0 hz he hS0;have HK:=ad hk0;have HB:=ad hb0;clear hk0 hb0;rcases tests with⟨m1,m2⟩|m1
   all_goals
    go_enter Tryz.func233,Tryz.ntmps233;go_wp2
    go_loopw [4] (fun n wr=>∃pos:Nat,pos<=s.size/\n= .int .i64 (min (gi ((af s).take pos) :Int) 1099511627777)/\ (∀k,k<pos->48<= (af s).getD k 0/\ (af s).getD k 0<=57)/\wr.heap[w.heap.size]? =some (.stringIter s pos)/\Below w.heap.size w wr)
     (fun _ wr=>s.size- wr.iterPos w.heap.size)
    case atStart=>exact⟨0,Nat.zero_le _,rfl,fun k hk=>by omega,HK.out,HB.out⟩
    case round=>
     obtain⟨pos,hps,rfl,hdg,hk,hnx⟩:=hrel;have HD:=ad hdg;clear hdg;have hmu:wr.iterPos w.heap.size=pos:=by simp[World.iterPos,hk]
     by_cases hp:pos<s.size
     ·have hx:=HA.out pos hp;obtain⟨nn,hnn⟩:∃n:Int,min (gi ((af s).take pos) :Int) 1099511627777=n:=⟨_,rfl⟩;rw[hnn];have n0:0<=nn:=by omega
      have n1:nn<=1099511627777:=by omega
      by_cases ha: (s[pos]'hp).toNat<128
      ·have hnext:∀ty,(Instr.next (.pointer (some ⟨w.heap.size,0,none⟩)) true ty).run Tryz.prog wr=_:=fun ty=>Lib.run_next_ascii_at wr w.heap.size s pos ty hk hp ha;have hk1:=Lib.iterAt_heap wr w.heap.size s pos (pos+1) hk;have hnx1:Below w.heap.size w (wr.iterAt w.heap.size s (pos+1)) :=Lib.below_iterAt hnx ah s (pos+1);have hmu1: (wr.iterAt w.heap.size s (pos+1)).iterPos w.heap.size=pos+1:=by simp[World.iterPos,hk1]
       generalize wr.iterAt w.heap.size s (pos+1) =W1 at hnext hk1 hnx1 hmu1;obtain⟨y,hye⟩:∃y:Int,((s[pos].toNat:Nat) :Int) =y:=⟨_,rfl⟩;rw[hye]at hx;have y0:0<=y:=by omega
       have y1:y<128:=by omega
       have HX:=ad hx;have HN:=ad hnn;have HK1:=ad hk1;have HX1:=ad hnx1;have HM:=ad hmu;have HM1:=ad hmu1;clear hx hnn hk1 hnx1 hmu hmu1 hk hnx;by_cases c1:y<48
       ·have Q:=ad (FB.out (uG hp (by rw[HX.out];omega)));go_wp2;go_ret2;rw[Q.out.1,Q.out.2];exact⟨rfl,HX1.out⟩
       ·by_cases c2:57<y
        ·have Q:=ad (FB.out (uG hp (by rw[HX.out];omega)));go_wp2;go_ret2;rw[Q.out.1,Q.out.2];exact⟨rfl,HX1.out⟩
        ·go_wp2_with (first| (refine xz ..));go_roundw
         case rel=>
          refine⟨pos+1,hp,?_,fun k hk=>?_,HK1.out,HX1.out⟩
          ·have e1:=qC (af s) pos (by rw[NL.out];exact hp);rw[HX.out]at e1;have e2:=HN.out
           congr 1
           omega
          ·by_cases e:k=pos
           ·rw[e,HX.out];omega
           ·exact HD.out k (by omega)
         case measure=>rw[HM.out,HM1.out];omega
      ·have hh:=decode_high s pos hp (by omega);have hnext:∀ty,(Instr.next (.pointer (some ⟨w.heap.size,0,none⟩)) true ty).run Tryz.prog wr=_:=fun ty=>Lib.run_next_any_at wr w.heap.size s pos ty hk hp;have hnx1:Below w.heap.size w (wr.iterAt w.heap.size s (pos+ (Utf8.decode s pos).2)) :=Lib.below_iterAt hnx ah s _;generalize wr.iterAt w.heap.size s (pos+ (Utf8.decode s pos).2) =W1 at hnext hnx1;obtain⟨y,hye⟩:∃y:Int,(((Utf8.decode s pos).1:Nat) :Int) =y:=⟨_,rfl⟩;rw[hye]at hnext;have y1:57<y:=by omega
       have y2:¬y<48:=by omega
       have Q:=ad (FB.out (uG hp (by rw[hx];omega)));have HX1:=ad hnx1;clear hx hnn hnx1 hmu hk hnx hh hye;go_wp2;go_ret2;rw[Q.out.1,Q.out.2];exact⟨rfl,HX1.out⟩
     ·have hnext:∀ty,(Instr.next (.pointer (some ⟨w.heap.size,0,none⟩)) true ty).run Tryz.prog wr=_:=fun ty=>Lib.run_next_end_at wr w.heap.size s pos ty hk hp;obtain rfl:pos=s.size:=by omega
      have Q:=FG.out (Iu HD.out HS0.out hz1.out);rw[List.take_of_length_le (by rw[NL.out];exact ah),<- Q.1];have HQ:=ad Q.2;have HX1:=ad hnx;clear Q hmu hnx hk;go_wp2;go_ret2;rw[HQ.out];exact⟨rfl,HX1.out⟩
end Go.Proofs.YtcjagakckffkiaaGreatDoor.bL
