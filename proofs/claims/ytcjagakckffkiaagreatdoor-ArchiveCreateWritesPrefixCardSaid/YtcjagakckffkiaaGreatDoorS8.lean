import Derived.Shelf.Small.Strs
import Derived.Shelf.Small.Wraps
import Derived.Shelf.Strconv.Itoa0
import Derived.Shelf.Strconv.Itoa1
import Derived.Shelf.LaysM
import Derived.Shelf.Strconv.Itoa2
import Derived.Shelf.Strconv.Itoa3
import Derived.Shelf.Strconv.Itoa4
import Derived.Shelf.Strconv.ParseIntEmpty
import Derived.Shelf.Strconv.Clone
import Derived.Shelf.Strconv.SyntaxError
import Derived.Shelf.LaysC
import Derived.Shelf.Strconv.ToError
import Derived.Shelf.Strconv.Lower
import Derived.Shelf.Strconv.ParseUint10
import Derived.Shelf.Strconv.ParseUint10Empty
import Derived.Shelf.Strconv.ParseUint10Any
import Derived.Shelf.Strconv.ParseInt10
import Derived.Shelf.Strconv.RangeError
import Derived.Shelf.Strconv.ToErrorRange
import Derived.Shelf.Strconv.ParseUintEmpty
import Derived.Shelf.Strconv.ParseUint10b64
import Derived.Shelf.Strconv.ParseUint10b32
import Derived.Shelf.Strconv.ParseUint10b16
import Derived.Shelf.Strconv.ParseUint10b8
import Derived.Shelf.Strconv.ParseUint10At
import Derived.Shelf.Strconv.ParseInt10At64
import Derived.Shelf.Strconv.ParseInt10At32
import Derived.Shelf.Strconv.ParseInt10At16
import Derived.Shelf.Strconv.ParseInt10At8
import Derived.Shelf.Strconv.ParseInt10All
import Derived.Shelf.Strconv.ParseIntPublic10
import Derived.Shelf.Strconv.ErrVarParseInt
import Derived.Shelf.Strings.Search1
import Derived.Shelf.Strings.Search2
import Derived.Shelf.Strings.LastIndex
import Derived.Shelf.Strings.Prefix
import Derived.Shelf.Bytes.SlEqualAll
import Derived.Shelf.Bytes.Small
import Derived.Test.YtcjagakckffkiaaGreatDoorProg
import Derived.Test.YtcjagakckffkiaaGreatDoorS7
import Derived.Lib.OthersKept
import Derived.Lib.BufferKept
set_option maxHeartbeats 16000000
set_option maxRecDepth 100000
namespace Go.Proofs
def Tryz.rh:Go.Shelf.Ren:=⟨fun|106=>145|213=>195|265=>219|n=>n,fun|9=>9|3=>3|n=>n,fun|n=>n⟩
theorem Tryz.AB:Go.Proofs.Lays.n106 Tryz.prog Tryz.rh:= {
 mixed:=by kernel_rfl
 f106:=Tryz.func145.trans (congrArg some (by kernel_rfl))
 f213:=Tryz.func195.trans (congrArg some (by kernel_rfl))
 f265:=Tryz.func219.trans (congrArg some (by kernel_rfl))
 t3:=Tryz.underlying3
 a3:=Tryz.isAgg3
 z3:=Tryz.sizeOf3
 v3:=Tryz.zeroValue3
 t9:=Tryz.underlying9
 a9:=Tryz.isAgg9
 z9:=Tryz.sizeOf9
 v9:=Tryz.zeroValue9}
open Go.RowKit in
theorem Tryz.strings_Compare (a b:ByteArray)(w:World) :
 Calls Tryz.prog 145 #[.string a,.string b] w fun e w'=>e= .returned (.int .i64 (Lib.compareBytes a.data.toList b.data.toList))/\w'=w:=Any.strings_Compare Tryz.AB a b w
def Tryz.ri:Go.Shelf.Ren:=⟨fun|137=>189|217=>213|266=>239|n=>n,fun|9=>9|5=>5|3=>3|n=>n,fun|n=>n⟩
theorem Tryz.AE:Go.Proofs.Lays.n137 Tryz.prog Tryz.ri:= {
 mixed:=by kernel_rfl
 f137:=Tryz.func189.trans (congrArg some (by kernel_rfl))
 f217:=Tryz.func213.trans (congrArg some (by kernel_rfl))
 f266:=Tryz.func239.trans (congrArg some (by kernel_rfl))
 t3:=Tryz.underlying3
 a3:=Tryz.isAgg3
 z3:=Tryz.sizeOf3
 v3:=Tryz.zeroValue3
 t5:=Tryz.underlying5
 a5:=Tryz.isAgg5
 z5:=Tryz.sizeOf5
 v5:=Tryz.zeroValue5
 t9:=Tryz.underlying9
 a9:=Tryz.isAgg9
 z9:=Tryz.sizeOf9
 v9:=Tryz.zeroValue9}
open Go.RowKit in
theorem Tryz.strings_IndexByte (s:ByteArray)(c:Int)(w:World) :
 Calls Tryz.prog 189 #[.string s,.int .u8 c] w fun e w'=>e= .returned (.int .i64 (Lib.indexByte s.data.toList c.toNat.toUInt8))/\w'=w:=Any.strings_IndexByte Tryz.AE s c w
def Tryz.pH:Go.Shelf.Ren:=⟨fun|171=>200|243=>225|246=>197|283=>220|284=>221|285=>222|286=>223|129=>242|317=>241|318=>243|319=>244|320=>245|337=>259|338=>260|n=>n,fun|3=>3|9=>9|2=>2|4=>4|171=>286|0=>0|53=>287|37=>25|5=>5|173=>290|212=>304|51=>305|20=>20|213=>306|46=>285|232=>330|233=>331|n=>n,fun|17=>3|18=>6|19=>7|n=>n⟩
theorem Tryz.xF:Go.Proofs.LaysM.n171 Tryz.prog Tryz.pH:= {
 mixed:=by kernel_rfl
 f129:=Tryz.func242.trans (congrArg some (by kernel_rfl))
 f171:=Tryz.func200.trans (congrArg some (by kernel_rfl))
 f243:=Tryz.func225.trans (congrArg some (by kernel_rfl))
 f246:=Tryz.func197.trans (congrArg some (by kernel_rfl))
 f283:=Tryz.func220.trans (congrArg some (by kernel_rfl))
 f284:=Tryz.func221.trans (congrArg some (by kernel_rfl))
 f285:=Tryz.func222.trans (congrArg some (by kernel_rfl))
 f286:=Tryz.func223.trans (congrArg some (by kernel_rfl))
 f317:=Tryz.func241.trans (congrArg some (by kernel_rfl))
 f318:=Tryz.func243.trans (congrArg some (by kernel_rfl))
 f319:=Tryz.func244.trans (congrArg some (by kernel_rfl))
 f320:=Tryz.func245.trans (congrArg some (by kernel_rfl))
 f337:=Tryz.func259.trans (congrArg some (by kernel_rfl))
 f338:=Tryz.func260.trans (congrArg some (by kernel_rfl))
 t0:=Tryz.underlying0
 a0:=Tryz.isAgg0
 z0:=Tryz.sizeOf0
 v0:=Tryz.zeroValue0
 t2:=Tryz.underlying2
 a2:=Tryz.isAgg2
 z2:=Tryz.sizeOf2
 v2:=Tryz.zeroValue2
 t3:=Tryz.underlying3
 a3:=Tryz.isAgg3
 z3:=Tryz.sizeOf3
 v3:=Tryz.zeroValue3
 t4:=Tryz.underlying4
 a4:=Tryz.isAgg4
 z4:=Tryz.sizeOf4
 v4:=Tryz.zeroValue4
 t5:=Tryz.underlying5
 a5:=Tryz.isAgg5
 z5:=Tryz.sizeOf5
 v5:=Tryz.zeroValue5
 t9:=Tryz.underlying9
 a9:=Tryz.isAgg9
 z9:=Tryz.sizeOf9
 v9:=Tryz.zeroValue9
 t20:=Tryz.underlying20
 a20:=Tryz.isAgg20
 z20:=Tryz.sizeOf20
 v20:=Tryz.zeroValue20
 t37:=Tryz.underlying25
 a37:=Tryz.isAgg25
 z37:=Tryz.sizeOf25
 v37:=Tryz.zeroValue25
 t46:=Tryz.underlying285
 a46:=Tryz.isAgg285
 z46:=Tryz.sizeOf285
 v46:=Tryz.zeroValue285
 t51:=Tryz.underlying305
 a51:=Tryz.isAgg305
 z51:=Tryz.sizeOf305
 v51:=Tryz.zeroValue305
 t53:=Tryz.underlying287
 a53:=Tryz.isAgg287
 z53:=Tryz.sizeOf287
 v53:=Tryz.zeroValue287
 t171:=Tryz.underlying286
 a171:=Tryz.isAgg286
 z171:=Tryz.sizeOf286
 v171:=Tryz.zeroValue286
 t173:=Tryz.underlying290
 a173:=Tryz.isAgg290
 z173:=Tryz.sizeOf290
 v173:=Tryz.zeroValue290
 t212:=Tryz.underlying304
 a212:=Tryz.isAgg304
 z212:=Tryz.sizeOf304
 v212:=Tryz.zeroValue304
 t213:=Tryz.underlying306
 a213:=Tryz.isAgg306
 z213:=Tryz.sizeOf306
 t232:=Tryz.underlying330
 a232:=Tryz.isAgg330
 z232:=Tryz.sizeOf330
 v232:=Tryz.zeroValue330
 t233:=Tryz.underlying331
 a233:=Tryz.isAgg331
 z233:=Tryz.sizeOf331
 v233:=Tryz.zeroValue331
 g17:=by kernel_rfl
 g18:=by kernel_rfl
 g19:=by kernel_rfl
 i0:=by kernel_rfl
 i2:=by kernel_rfl
 i3:=by kernel_rfl
 i4:=by kernel_rfl
 i5:=by kernel_rfl
 i9:=by kernel_rfl
 i20:=by kernel_rfl
 i37:=by kernel_rfl
 i46:=by kernel_rfl
 i51:=by kernel_rfl
 i53:=by kernel_rfl
 i171:=by kernel_rfl
 i173:=by kernel_rfl
 i212:=by kernel_rfl
 i232:=by kernel_rfl
 i233:=by kernel_rfl
 m17:=by kernel_rfl
 m18:=by kernel_rfl
 m19:=by kernel_rfl}
open Go.RowKit Go.Sort Go.Lib in
theorem Tryz.strconv_Itoa (n:Int)(h0: -9223372036854775808<=n)(h1:n<=9223372036854775807)(w:World)(htab:Lib.TabIs Tryz.prog w "internal/strconv.uint64pow10" .u64 Lib.pow10Tab) :
 Calls Tryz.prog 200 #[.int .i64 n] w fun e w'=>e= .returned (.string ⟨(Lib.itoa n).toArray⟩)/\∃k os,w'=grow (w.drewN k) os:=Any.strconv_Itoa Tryz.xF n h0 h1 w htab
def Tryz.pI:Go.Shelf.Ren:=⟨fun|173=>147|246=>197|283=>220|284=>221|285=>222|286=>223|129=>242|317=>241|318=>243|319=>244|320=>245|337=>259|338=>260|n=>n,fun|2=>2|3=>3|9=>9|4=>4|171=>286|0=>0|53=>287|37=>25|5=>5|173=>290|212=>304|51=>305|20=>20|213=>306|46=>285|232=>330|233=>331|n=>n,fun|17=>3|18=>6|19=>7|n=>n⟩
theorem Tryz.xG:Go.Proofs.LaysM.n173 Tryz.prog Tryz.pI:= {
 mixed:=by kernel_rfl
 f129:=Tryz.func242.trans (congrArg some (by kernel_rfl))
 f173:=Tryz.func147.trans (congrArg some (by kernel_rfl))
 f246:=Tryz.func197.trans (congrArg some (by kernel_rfl))
 f283:=Tryz.func220.trans (congrArg some (by kernel_rfl))
 f284:=Tryz.func221.trans (congrArg some (by kernel_rfl))
 f285:=Tryz.func222.trans (congrArg some (by kernel_rfl))
 f286:=Tryz.func223.trans (congrArg some (by kernel_rfl))
 f317:=Tryz.func241.trans (congrArg some (by kernel_rfl))
 f318:=Tryz.func243.trans (congrArg some (by kernel_rfl))
 f319:=Tryz.func244.trans (congrArg some (by kernel_rfl))
 f320:=Tryz.func245.trans (congrArg some (by kernel_rfl))
 f337:=Tryz.func259.trans (congrArg some (by kernel_rfl))
 f338:=Tryz.func260.trans (congrArg some (by kernel_rfl))
 t0:=Tryz.underlying0
 a0:=Tryz.isAgg0
 z0:=Tryz.sizeOf0
 v0:=Tryz.zeroValue0
 t2:=Tryz.underlying2
 a2:=Tryz.isAgg2
 z2:=Tryz.sizeOf2
 v2:=Tryz.zeroValue2
 t3:=Tryz.underlying3
 a3:=Tryz.isAgg3
 z3:=Tryz.sizeOf3
 v3:=Tryz.zeroValue3
 t4:=Tryz.underlying4
 a4:=Tryz.isAgg4
 z4:=Tryz.sizeOf4
 v4:=Tryz.zeroValue4
 t5:=Tryz.underlying5
 a5:=Tryz.isAgg5
 z5:=Tryz.sizeOf5
 v5:=Tryz.zeroValue5
 t9:=Tryz.underlying9
 a9:=Tryz.isAgg9
 z9:=Tryz.sizeOf9
 v9:=Tryz.zeroValue9
 t20:=Tryz.underlying20
 a20:=Tryz.isAgg20
 z20:=Tryz.sizeOf20
 v20:=Tryz.zeroValue20
 t37:=Tryz.underlying25
 a37:=Tryz.isAgg25
 z37:=Tryz.sizeOf25
 v37:=Tryz.zeroValue25
 t46:=Tryz.underlying285
 a46:=Tryz.isAgg285
 z46:=Tryz.sizeOf285
 v46:=Tryz.zeroValue285
 t51:=Tryz.underlying305
 a51:=Tryz.isAgg305
 z51:=Tryz.sizeOf305
 v51:=Tryz.zeroValue305
 t53:=Tryz.underlying287
 a53:=Tryz.isAgg287
 z53:=Tryz.sizeOf287
 v53:=Tryz.zeroValue287
 t171:=Tryz.underlying286
 a171:=Tryz.isAgg286
 z171:=Tryz.sizeOf286
 v171:=Tryz.zeroValue286
 t173:=Tryz.underlying290
 a173:=Tryz.isAgg290
 z173:=Tryz.sizeOf290
 v173:=Tryz.zeroValue290
 t212:=Tryz.underlying304
 a212:=Tryz.isAgg304
 z212:=Tryz.sizeOf304
 v212:=Tryz.zeroValue304
 t213:=Tryz.underlying306
 a213:=Tryz.isAgg306
 z213:=Tryz.sizeOf306
 t232:=Tryz.underlying330
 a232:=Tryz.isAgg330
 z232:=Tryz.sizeOf330
 v232:=Tryz.zeroValue330
 t233:=Tryz.underlying331
 a233:=Tryz.isAgg331
 z233:=Tryz.sizeOf331
 v233:=Tryz.zeroValue331
 g17:=by kernel_rfl
 g18:=by kernel_rfl
 g19:=by kernel_rfl
 i0:=by kernel_rfl
 i2:=by kernel_rfl
 i3:=by kernel_rfl
 i4:=by kernel_rfl
 i5:=by kernel_rfl
 i9:=by kernel_rfl
 i20:=by kernel_rfl
 i37:=by kernel_rfl
 i46:=by kernel_rfl
 i51:=by kernel_rfl
 i53:=by kernel_rfl
 i171:=by kernel_rfl
 i173:=by kernel_rfl
 i212:=by kernel_rfl
 i232:=by kernel_rfl
 i233:=by kernel_rfl
 m17:=by kernel_rfl
 m18:=by kernel_rfl
 m19:=by kernel_rfl}
open Go.RowKit Go.Sort Go.Lib in
theorem Tryz.strconv_FormatInt_10 (n:Int)(h0: -9223372036854775808<=n)(h1:n<=9223372036854775807)(w:World)(htab:Lib.TabIs Tryz.prog w "internal/strconv.uint64pow10" .u64 Lib.pow10Tab) :
 Calls Tryz.prog 147 #[.int .i64 n,.int .i64 10] w fun e w'=>e= .returned (.string ⟨(Lib.itoa n).toArray⟩)/\∃k os,w'=grow (w.drewN k) os:=Any.strconv_FormatInt_10 Tryz.xG n h0 h1 w htab
end Go.Proofs
namespace Go.Proofs.YtcjagakckffkiaaGreatDoor
namespace Pxr
open Go.RowKit
theorem nE (n:Nat) : (⟨(Lib.decDigits n).toArray⟩:ByteArray) =strOfNums (cy n) :=by
 rw[<- aJ ⟨(Lib.decDigits n).toArray⟩];rfl
theorem iB (n:Nat) : (strOfNums (cy n)).size=Lib.nDigits n:=by
 rw[<- nE,Lib.size_eq];exact Lib.decDigits_length n
theorem mz {B:Nat}(w:World)(k:Nat)(os:Array Obj)(hB:B<=w.heap.size) :Below B w (Sort.grow (w.drewN k) os) :=
 ⟨rfl,rfl,rfl,by simp[Sort.grow],fun i hi=>by
  show(w.heap++os)[i]? =w.heap[i]?;exact Array.getElem?_append_left (by omega)⟩
theorem re (n:Nat)(hn:n<=9223372036854775807)(w:World)(V:gS w) :Calls Tryz.prog 200 #[.int .i64 (n:Int)] w fun e w'=>e= .returned (.string (strOfNums (cy n)))/\Below w.heap.size w w':=by
 refine(Tryz.strconv_Itoa (n:Int) (by omega) (by omega) w V.BJ).mono ?_;rintro e w' ⟨rfl,k,os,rfl⟩;refine⟨?_,mz w k os aj⟩;unfold Lib.itoa;rw[if_neg (by omega),Int.toNat_natCast,nE]
def DJ (zs:List Int) :Int:=if ch zs=true then min (dw zs:Int) 1099511627777 else 0
theorem tT {s:ByteArray}(h:∀k,k<s.size->48<= (ad s).getD k 0/\ (ad s).getD k 0<=57)(h0:s.size≠0)(hz: (ad s).getD 0 0=48->s.size=1) :ch (ad s) =true:=by
 rw[iv,ah];exact⟨fun e=>h0 (by rw[<- ah,e];rfl),h,hz⟩
theorem jq {s:ByteArray}{k:Nat}(hk:k<s.size)(h:¬(48<= (ad s).getD k 0/\ (ad s).getD k 0<=57)) :ch (ad s) =false:=by
 rw[Bool.eq_false_iff];intro e;rw[iv,ah]at e;exact h (e.2.1 k hk)
theorem yt (s:ByteArray)(w:World)(hs:s.size<=maxLen) :Calls Tryz.prog 233 #[.string s] w fun e w'=>
 e= .returned (.tuple #[.int .i64 (DJ (ad s)),.bool (ch (ad s))])/\Below w.heap.size w w':=by
 unfold maxLen at hs;obtain⟨R,hR⟩:=named (DJ (ad s));obtain⟨B,hB⟩:=named (ch (ad s));rw[<- hR.out,<- hB.out];have FB:Hid (ch (ad s) =false->R=0/\B=false) :=fun h=>⟨by rw[hR.out];unfold DJ;rw[h];rfl,by rw[hB.out,h]⟩;have FG:Hid (ch (ad s) =true->R=min (dw (ad s) :Int) 1099511627777/\B=true) :=fun h=>⟨by rw[hR.out];unfold DJ;rw[if_pos h],by rw[hB.out,h]⟩;have HA:Hid (∀j (h:j<s.size),(ad s).getD j 0= (s[j].toNat:Int)) :=dC s;have NL:=aa (ah s);clear hR hB;by_cases he:s= {data:= #[]}
 ·obtain⟨q1,q2⟩:=FB.out (by rw[he];rfl);have hl:s.toList= [] :=by rw[he,ByteArray.toList_eq]
  clear FG HA NL;have Q:=aa (And.intro q1 q2);have hi:s.toList.isEmpty=true:=by rw[hl];rfl
  clear q1 q2 he;go_enter Tryz.func233,Tryz.ntmps233;go_wp2;go_ret2;rw[Q.out.1,Q.out.2];exact⟨rfl,au⟩
 ·have h0:0<s.size:=by
   rcases Nat.eq_zero_or_pos s.size with h|h
   ·exact absurd (bQ (by rw[List.length_eq_zero_iff.1 ((NL.out).trans h)];rfl)) he
   ·exact h
  have hi:=cE he;have hx0:=HA.out 0 h0;obtain⟨x,hxe⟩:∃x:Int,((s[0].toNat:Nat) :Int) =x:=⟨_,rfl⟩;rw[hxe]at hx0;by_cases hz:x=48/\s≠{data:= #[48]}
  ·have hbad:ch (ad s) =false:=by
    rw[Bool.eq_false_iff];intro e;rw[iv]at e;have h1:=e.2.2 (by rw[hx0];exact hz.1);apply hz.2;apply bQ
    match hm:ad s,h1 with
    | [y],_=>rw[hm]at hx0;change y=x at hx0;rw[hx0,hz.1];rfl
   have Q:=aa (FB.out hbad);have m1: (x==48) =true:=by rw[hz.1];rfl
   have m2: (s.toList== [48]) =false:=by
    have:=cV hz.2;rwa [show({data:= #[48]} :ByteArray).toList= [48] by rw[ByteArray.toList_eq]]at this
   clear FG HA NL FB hx0 hz hbad he;go_enter Tryz.func233,Tryz.ntmps233;go_wp2;go_ret2;rw[Q.out.1,Q.out.2];exact⟨rfl,au⟩
  ·have hz1:Hid ((ad s).getD 0 0=48->s.size=1) :=fun e=>by
    have:s= {data:= #[48]} :=by
     by_cases c:s= {data:= #[48]}
     ·exact c
     ·exact absurd ⟨by rw[<- hx0];exact e,c⟩ hz
    rw[this];rfl
   have hk0: (w.iter s 0).heap[w.heap.size]? =some (.stringIter s 0) :=World.iter_heap w s 0;have hb0:Below w.heap.size w (w.iter s 0) := (Below.refl _ w).alloc aj _;have hS0:s.size≠0:=by omega
   have HS0:=aa hS0
   have tests: ((x==48) =true/\ (s.toList== [48]) =true)\/ (x==48) =false:=by
    by_cases c:x=48
    ·refine .inl ⟨by rw[c];rfl,?_⟩
     have:s= {data:= #[48]} :=by
      by_cases c':s= {data:= #[48]}
      ·exact c'
      ·exact absurd ⟨c,c'⟩ hz
     rw[this,ByteArray.toList_eq];rfl
    ·exact .inr (by simpa using c)
   clear hx0 hz he hS0;have HK:=aa hk0;have HB:=aa hb0;clear hk0 hb0;rcases tests with⟨m1,m2⟩|m1
   all_goals
    go_enter Tryz.func233,Tryz.ntmps233;go_wp2
    go_loopw [4] (fun n wr=>∃pos:Nat,pos<=s.size/\n= .int .i64 (min (dw ((ad s).take pos) :Int) 1099511627777)/\ (∀k,k<pos->48<= (ad s).getD k 0/\ (ad s).getD k 0<=57)/\wr.heap[w.heap.size]? =some (.stringIter s pos)/\Below w.heap.size w wr)
     (fun _ wr=>s.size- wr.iterPos w.heap.size)
    case atStart=>exact⟨0,Nat.zero_le _,rfl,fun k hk=>by omega,HK.out,HB.out⟩
    case round=>
     obtain⟨pos,hps,rfl,(HD:Hid _),hk,hnx⟩:=hrel;have hmu:wr.iterPos w.heap.size=pos:=by simp[World.iterPos,hk]
     by_cases hp:pos<s.size
     ·have hx:=HA.out pos hp;obtain⟨nn,hnn⟩:∃n:Int,min (dw ((ad s).take pos) :Int) 1099511627777=n:=⟨_,rfl⟩;rw[hnn];have n0:0<=nn:=by omega
      have n1:nn<=1099511627777:=by omega
      by_cases ha: (s[pos]'hp).toNat<128
      ·have hnext:∀ty,(Instr.next (.pointer (some ⟨w.heap.size,0,none⟩)) true ty).run Tryz.prog wr=_:=fun ty=>Lib.run_next_ascii_at wr w.heap.size s pos ty hk hp ha;have hk1:=Lib.iterAt_heap wr w.heap.size s pos (pos+1) hk;have hnx1:Below w.heap.size w (wr.iterAt w.heap.size s (pos+1)) :=Lib.below_iterAt hnx aj s (pos+1);have hmu1: (wr.iterAt w.heap.size s (pos+1)).iterPos w.heap.size=pos+1:=by simp[World.iterPos,hk1]
       generalize wr.iterAt w.heap.size s (pos+1) =W1 at hnext hk1 hnx1 hmu1;obtain⟨y,hye⟩:∃y:Int,((s[pos].toNat:Nat) :Int) =y:=⟨_,rfl⟩;rw[hye]at hx;have y0:0<=y:=by omega
       have y1:y<128:=by omega
       have HX:=aa hx;have HN:=aa hnn;have HK1:=aa hk1;have HX1:=aa hnx1;have HM:=aa hmu;have HM1:=aa hmu1;clear hx hnn hk1 hnx1 hmu hmu1 hk hnx;by_cases c1:y<48
       ·have Q:=aa (FB.out (jq hp (by rw[HX.out];omega)));go_wp2;go_ret2;rw[Q.out.1,Q.out.2];exact⟨rfl,HX1.out⟩
       ·by_cases c2:57<y
        ·have Q:=aa (FB.out (jq hp (by rw[HX.out];omega)));go_wp2;go_ret2;rw[Q.out.1,Q.out.2];exact⟨rfl,HX1.out⟩
        ·go_wp2_with (first| (refine sb ..));go_roundw
         case rel=>
          refine⟨pos+1,hp,?_,fun k hk=>?_,HK1.out,HX1.out⟩
          ·have e1:=gX (ad s) pos (by rw[NL.out];exact hp);rw[HX.out]at e1;have e2:=HN.out
           congr 1
           omega
          ·by_cases e:k=pos
           ·rw[e,HX.out];omega
           ·exact HD.out k (by omega)
         case measure=>rw[HM.out,HM1.out];omega
      ·have hh:=decode_high s pos hp (by omega);have hnext:∀ty,(Instr.next (.pointer (some ⟨w.heap.size,0,none⟩)) true ty).run Tryz.prog wr=_:=fun ty=>Lib.run_next_any_at wr w.heap.size s pos ty hk hp;have hnx1:Below w.heap.size w (wr.iterAt w.heap.size s (pos+ (Utf8.decode s pos).2)) :=Lib.below_iterAt hnx aj s _;generalize wr.iterAt w.heap.size s (pos+ (Utf8.decode s pos).2) =W1 at hnext hnx1;obtain⟨y,hye⟩:∃y:Int,(((Utf8.decode s pos).1:Nat) :Int) =y:=⟨_,rfl⟩;rw[hye]at hnext;have y1:57<y:=by omega
       have y2:¬y<48:=by omega
       have Q:=aa (FB.out (jq hp (by rw[hx];omega)));have HX1:=aa hnx1;clear hx hnn hnx1 hmu hk hnx hh hye;go_wp2;go_ret2;rw[Q.out.1,Q.out.2];exact⟨rfl,HX1.out⟩
     ·have hnext:∀ty,(Instr.next (.pointer (some ⟨w.heap.size,0,none⟩)) true ty).run Tryz.prog wr=_:=fun ty=>Lib.run_next_end_at wr w.heap.size s pos ty hk hp;obtain rfl:pos=s.size:=by omega
      have Q:=FG.out (tT HD.out HS0.out hz1.out);rw[List.take_of_length_le (by rw[NL.out];exact aj),<- Q.1];have HQ:=aa Q.2;have HX1:=aa hnx;clear Q hmu hnx hk;go_wp2;go_ret2;rw[HQ.out];exact⟨rfl,HX1.out⟩
theorem EB:aM.toList= [108,105,110,107,112,97,116,104] :=by rw[ByteArray.toList_eq]
theorem ED:aG.toList= [112,97,116,104] :=by rw[ByteArray.toList_eq]
theorem EF:aL.toList= [115,105,122,101] :=by rw[ByteArray.toList_eq]
theorem Fs {a b:ByteArray}(h:a=b) : (a.toList==b.toList) =true:=by rw[h];exact beq_self_eq_true _
theorem Fq {a b:ByteArray}(h:¬a=b) : (a.toList==b.toList) =false:=cV h
theorem eA (k:ByteArray)(b0 b1 b2:Bool)(h0:decide (k=aM) =b0)(h1:decide (k=aG) =b1)(h2:decide (k=aL) =b2) :
 (k.toList== [108,105,110,107,112,97,116,104]) =b0/\ (k.toList== [112,97,116,104]) =b1/\ (k.toList== [115,105,122,101]) =b2:=by
 rw[<- EB,<- ED,<- EF,<- h0,<- h1,<- h2];refine⟨?_,?_,?_⟩
 ·by_cases h:k=aM
  ·rw[decide_eq_true h];exact Fs h
  ·rw[decide_eq_false h];exact Fq h
 ·by_cases h:k=aG
  ·rw[decide_eq_true h];exact Fs h
  ·rw[decide_eq_false h];exact Fq h
 ·by_cases h:k=aL
  ·rw[decide_eq_true h];exact Fs h
  ·rw[decide_eq_false h];exact Fq h
theorem mC (w:World)(xs:Array Value)(i:Nat)(hi:i<3)(s:ByteArray)(hx:xs[i]? =some (.string s)) : (Instr.index 301 (.agg xs) (.int .i64 (i:Int))).run Tryz.prog w= .ok (.string s) w:=by
 have he: (Tryz.prog.info? 9).map (·.size) =some 1:=by kernel_rfl
 cases hq:Tryz.prog.info? 9 with
 |none=>simp[hq]at he
 |some j=>
  have hs:j.size=1:=by simpa [hq]using he
  simp[Instr.index,asIntOf,run_underlying Tryz.underlying301,hi,sizeOf,typeInfo,hq,hs,part,hx]
def zI (b0 b1 b2:Bool)(i:Value) :Prop:=i= .int .i64 0\/ (i= .int .i64 1/\b0=false)\/ (i= .int .i64 2/\b0=false/\b1=false)\/ (i= .int .i64 3/\b0=false/\b1=false/\b2=false)
theorem yg (k:ByteArray)(w:World)(V:gS w)(B:Bool)(hB:B= (decide (k=aM) ||decide (k=aG) ||decide (k=aL))) :Calls Tryz.prog 215 #[.string k] w fun e w'=>e= .returned (.bool B)/\w=w':=by
 have c0:=V.k0;have c1:=V.k1;have c2:=V.k2;obtain⟨b0,h0⟩:∃b,decide (k=aM) =b:=⟨_,rfl⟩;obtain⟨b1,h1⟩:∃b,decide (k=aG) =b:=⟨_,rfl⟩;obtain⟨b2,h2⟩:∃b,decide (k=aL) =b:=⟨_,rfl⟩;obtain⟨(T0:Hid _),(T1:Hid _),(T2:Hid _)⟩:=eA k b0 b1 b2 h0 h1 h2;rw[h0,h1,h2]at hB;have HB:=aa hB;clear V h0 h1 h2 hB;go_enter Tryz.func215,Tryz.ntmps215;go_wp2_with fail;clear c0 c1 c2;go_loop [6] (fun i=>zI b0 b1 b2 i) (fun i=>3- (intOf i).toNat)
 case atStart=>exact .inl rfl
 case round=>
  rcases hrel with rfl|⟨rfl,x0⟩|⟨rfl,x0,x1⟩|⟨rfl,x0,x1,x2⟩
  ·have t:=T0.out;have hix:=mC w #[.string aM,.string aG,.string aL] 0 (by decide) _ rfl
   change (Instr.index 301 _ (.int .i64 0)).run Tryz.prog w=_ at hix
   cases b0 with
   |true=>
    go_wp2;go_ret;exact⟨by rw[HB.out];rfl,rfl⟩
   |false=>
    go_wp2
    go_round
    case rel=>exact .inr (.inl ⟨rfl,rfl⟩)
    case measure=>simp[intOf]
  ·have t:=T1.out;have hix:=mC w #[.string aM,.string aG,.string aL] 1 (by decide) _ rfl
   change (Instr.index 301 _ (.int .i64 1)).run Tryz.prog w=_ at hix
   have X0:=aa x0;clear x0
   cases b1 with
   |true=>
    go_wp2;go_ret;exact⟨by rw[HB.out,X0.out];rfl,rfl⟩
   |false=>
    go_wp2
    go_round
    case rel=>exact .inr (.inr (.inl ⟨rfl,X0.out,rfl⟩))
    case measure=>simp[intOf]
  ·have t:=T2.out;have hix:=mC w #[.string aM,.string aG,.string aL] 2 (by decide) _ rfl
   change (Instr.index 301 _ (.int .i64 2)).run Tryz.prog w=_ at hix
   have X0:=aa x0;have X1:=aa x1;clear x0 x1
   cases b2 with
   |true=>
    go_wp2;go_ret;exact⟨by rw[HB.out,X0.out,X1.out];rfl,rfl⟩
   |false=>
    go_wp2
    go_round
    case rel=>exact .inr (.inr (.inr ⟨rfl,X0.out,X1.out,rfl⟩))
    case measure=>simp[intOf]
  ·have X0:=aa x0;have X1:=aa x1;have X2:=aa x2;clear x0 x1 x2;go_wp2;go_ret;exact⟨by rw[HB.out,X0.out,X1.out,X2.out];rfl,rfl⟩
theorem fY (v:ByteArray)(w:World)(hv:v.size<=maxLen) :Calls Tryz.prog 217 #[.string v] w fun e w'=>e= .returned (.int .i64 (eo v))/\w=w':=by
 unfold maxLen at hv;obtain⟨R,hR⟩:=named (eo v);rw[<- hR.out];by_cases h1:65536<v.size
 ·have e:=aa (show R=7 by rw[hR.out];unfold eo;rw[if_pos h1]);have m1: (65536:Int) <v.size:=by omega
  clear h1 hR;go_enter Tryz.func217,Tryz.ntmps217;go_wp2;go_ret;exact⟨by rw[e.out];rfl,rfl⟩
 ·have m1:¬(65536:Int) <v.size:=by omega
  obtain⟨k,hk⟩:=named (Lib.indexByte v.data.toList 0);have hk0:=uh v;rw[<- hk.out]at hk0;by_cases h2:v= {data:= #[]}
  ·have e:=aa (show R=6 by rw[hR.out];unfold eo;rw[if_neg h1,if_pos (.inl (by rw[h2];rfl))]);have hi:v.toList.isEmpty=true:=by rw[h2,ByteArray.toList_eq];rfl
   have hi2:v.toList= [] :=by rw[h2,ByteArray.toList_eq]
   clear h1 hR h2 hk0 hi2;go_enter Tryz.func217,Tryz.ntmps217;go_wp2;go_ret;exact⟨by rw[e.out];rfl,rfl⟩
  ·have hi:=cE h2;have hs0:v.size≠0:=fun e=>h2 (bQ (by rw[List.length_eq_zero_iff.1 ((ah v).trans e)];rfl));by_cases h3: (0:Int)∈ad v
   ·have e:=aa (show R=6 by rw[hR.out];unfold eo;rw[if_neg h1,if_pos (.inr h3)]);have m2:0<=k:=hk0.2 h3;clear h1 hR h2 hk0 h3 hs0;go_enter Tryz.func217,Tryz.ntmps217;go_wp2_with fail;refine(Tryz.strings_IndexByte v 0 w).mono ?_;rintro e w1 ⟨rfl,rfl⟩;rw[show(0:Int).toNat.toUInt8=0 from rfl,<- hk.out];go_wp2;go_ret;exact⟨by rw[e.out];rfl,rfl⟩
   ·have e:=aa (show R=0 by rw[hR.out];unfold eo;rw[if_neg h1,if_neg (fun h=>h.elim hs0 h3)]);have m2:¬0<=k:=fun h=>h3 (hk0.1 h);clear h1 hR h2 hk0 h3 hs0;go_enter Tryz.func217,Tryz.ntmps217;go_wp2_with fail;refine(Tryz.strings_IndexByte v 0 w).mono ?_;rintro e w1 ⟨rfl,rfl⟩;rw[show(0:Int).toNat.toUInt8=0 from rfl,<- hk.out];go_wp2;go_ret;exact⟨by rw[e.out];rfl,rfl⟩
theorem wW (v:ByteArray)(w:World)(hv:v.size<=maxLen) :Calls Tryz.prog 216 #[.string v] w fun e w'=>e= .returned (.int .i64 (nW v))/\Below w.heap.size w w':=by
 obtain⟨R,hR⟩:=named (nW v);rw[<- hR.out];have P:=yt v w hv;obtain⟨n,hn⟩:=named (DJ (ad v));obtain⟨B,hB⟩:=named (ch (ad v));rw[<- hn.out,<- hB.out]at P;have HP:=aa P;clear P;by_cases h1:ch (ad v) =false
 ·have e:=aa (show R=6 by rw[hR.out];unfold nW;rw[if_pos h1]);have b:=hB.out.trans h1;subst b;clear hB hR hn h1;go_enter Tryz.func216,Tryz.ntmps216;go_wp2_with fail;refine HP.out.mono ?_;rintro e w1 ⟨rfl,b1⟩;go_wp2;go_ret;exact⟨by rw[e.out];rfl,b1⟩
 ·have h1':ch (ad v) =true:=by simpa using h1
  have b:=hB.out.trans h1';have en:=hn.out;unfold DJ at en;rw[if_pos h1']at en;by_cases h2:1099511627776<dw (ad v)
  ·have e:=aa (show R=3 by rw[hR.out];unfold nW;rw[if_neg h1,if_pos h2]);have m: (1099511627776:Int) <n:=by omega
   subst b;clear hB hR hn h1 h1' en h2;go_enter Tryz.func216,Tryz.ntmps216;go_wp2_with fail;refine HP.out.mono ?_;rintro e w1 ⟨rfl,b1⟩;go_wp2;go_ret;exact⟨by rw[e.out];rfl,b1⟩
  ·have e:=aa (show R=0 by rw[hR.out];unfold nW;rw[if_neg h1,if_neg h2]);have m:¬(1099511627776:Int) <n:=by omega
   subst b;clear hB hR hn h1 h1' en h2;go_enter Tryz.func216,Tryz.ntmps216;go_wp2_with fail;refine HP.out.mono ?_;rintro e w1 ⟨rfl,b1⟩;go_wp2;go_ret;exact⟨by rw[e.out];rfl,b1⟩
theorem eh (k v:ByteArray)(w:World)(V:gS w)(hv:v.size<=maxLen) :Calls Tryz.prog 191 #[.agg #[.string k,.string v]] w fun e w'=>e= .returned (.int .i64 (cA (k,v)))/\Below w.heap.size w w':=by
 obtain⟨R,hR⟩:=named (cA (k,v));rw[<- hR.out];have HP:=aa fun(B:Bool) hB (w':World) (hb:Below w.heap.size w w') =>yg k w' (V.go hb) B hB;have HT:=aa fun(w':World) =>fY v w' hv;have HS:=aa fun(w':World) =>wW v w' hv;have b0:Hid (Below w.heap.size w (w.alloc (.cells #[.string k,.string v] 202))) := (Below.refl _ w).alloc aj _;have hd:=hR.out;unfold cA at hd;dsimp only at hd;by_cases h1:k=aM\/k=aG
 ·rw[if_pos h1]at hd;have h3:k≠aL:=by rcases h1 with rfl|rfl<;>decide
  have t3:= (eA k _ _ _ rfl rfl rfl).2.2;rw[decide_eq_false h3]at t3
  have hp: (true:Bool) = (decide (k=aM) ||decide (k=aG) ||decide (k=aL)) :=by
   rcases h1 with rfl|rfl<;>decide
  have HPP:=aa fun w' hb=>HP.out true hp w' hb;have HD:=aa hd;clear hR hd h1 h3 hp HP;go_enter Tryz.func191,Tryz.ntmps191;go_wp2_with fail;refine(HPP.out _ b0.out).mono ?_;rintro e w1 ⟨rfl,rfl⟩;go_wp2_with fail;refine(HT.out _).mono ?_;rintro e w1 ⟨rfl,rfl⟩;go_wp2;go_ret;exact⟨by rw[HD.out];rfl,b0.out⟩
 ·rw[if_neg h1]at hd;by_cases h2:k=aL
  ·rw[if_pos h2]at hd;have t3:= (eA k _ _ _ rfl rfl rfl).2.2;rw[decide_eq_true h2]at t3
   have hp: (true:Bool) = (decide (k=aM) ||decide (k=aG) ||decide (k=aL)) :=by
    rw[h2];decide
   have HPP:=aa fun w' hb=>HP.out true hp w' hb;have HD:=aa hd;clear hR hd h1 h2 hp HP;go_enter Tryz.func191,Tryz.ntmps191;go_wp2_with fail;refine(HPP.out _ b0.out).mono ?_;rintro e w1 ⟨rfl,rfl⟩;go_wp2_with fail;refine(HS.out _).mono ?_;rintro e w1 ⟨rfl,(B1:Hid _)⟩;go_wp2;go_ret;exact⟨by rw[HD.out];rfl,b0.out.trans (B1.out.mono (by simp))⟩
  ·rw[if_neg h2]at hd
   have hp: (false:Bool) = (decide (k=aM) ||decide (k=aG) ||decide (k=aL)) :=by
    rw[decide_eq_false (fun h=>h1 (.inl h)),decide_eq_false (fun h=>h1 (.inr h)),decide_eq_false h2];rfl
   have HPP:=aa fun w' hb=>HP.out false hp w' hb;have HD:=aa hd;clear hR hd h1 h2 hp HP;go_enter Tryz.func191,Tryz.ntmps191;go_wp2_with fail;refine(HPP.out _ b0.out).mono ?_;rintro e w1 ⟨rfl,rfl⟩;go_wp2;go_ret;exact⟨by rw[HD.out];rfl,b0.out⟩
end Pxr
end Go.Proofs.YtcjagakckffkiaaGreatDoor
