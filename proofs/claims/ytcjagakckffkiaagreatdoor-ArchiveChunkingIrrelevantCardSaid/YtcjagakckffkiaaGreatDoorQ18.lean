import Derived.Test.YtcjagakckffkiaaGreatDoorQ8
import Derived.Test.YtcjagakckffkiaaGreatDoorQ5
import Derived.Test.YtcjagakckffkiaaGreatDoorQ1
import Derived.Test.YtcjagakckffkiaaGreatDoorQ9
import Derived.BigQuiet
import Derived.Test.YtcjagakckffkiaaGreatDoorQ17
import Derived.Test.YtcjagakckffkiaaGreatDoorQ16
set_option maxHeartbeats 16000000
namespace Go.Proofs.YtcjagakckffkiaaGreatDoor.bL
open Go.RowKit
def xL (c:Int)(zs:List Int) :List Int:=zs.drop ((jF c zs).length+1)
theorem xJ {c:Int}{zs:List Int}(h:c∉zs) :xL c zs= [] :=by unfold xL;rw[xN h,List.drop_eq_nil_of_le (by omega)]
theorem GK (s:ByteArray)(c:UInt8)(w:World)(hs:s.size<=maxLen) :Calls Tryz.prog 252 #[.string s,.string ⟨#[c]⟩] w fun e w'=>
 e= .returned (.tuple #[.string (strOfNums (jF c.toNat (af s))),.string (strOfNums (xL c.toNat (af s))),.bool (decide ((c.toNat:Int)∈af s))])/\Below w.heap.size w w':=by
 unfold maxLen at hs;obtain⟨A,hA⟩:=named (strOfNums (jF c.toNat (af s)));obtain⟨D,hD⟩:=named (strOfNums (xL c.toNat (af s)));rw[<- hA.out,<- hD.out];obtain⟨i1,i2⟩:=Br s c;by_cases hm: (c.toNat:Int)∈af s
 ·rw[decide_eq_true hm];obtain⟨k,hk⟩:=named (jF c.toNat (af s)).length;have hlt:k<s.size:=by rw[hk.out,<- an];exact zY hm
  have hI:=i2 hm
  change _= (((jF c.toNat (af s)).length:Nat) :Int)at hI
  rw[<- hk.out]at hI;have eA:Hid (A=s.extract 0 k) :=by show _=_;rw[hA.out,iw,qS,<- hk.out];rfl
  have eD:Hid (D=s.extract (k+1) s.size) :=by
   show _=_;rw[hD.out,iw];unfold xL;rw[<- hk.out,List.take_of_length_le (by rw[List.length_drop,an];exact ah)]
  have HI:=ad hI;have m1: (k:Int) <s.size:=by omega
  have m0: (k:Int)<=s.size:=by omega
  have m2: (k:Int) +1<=s.size:=by omega
  have m3:IntKind.i64.wrap ((k:Int) +1) = (k:Int) +1:=jJ (by omega) (by omega);have m4: ((k:Int) +1).toNat=k+1:=by omega
  have m5: (0:Int)<= (k:Int) +1:=by omega
  clear i1 i2 hI hm hk;go_enter Tryz.func252,Tryz.ntmps252;go_wp2_with fail;refine(Tryz.stringslite_Index_one s c w).mono ?_;rintro e w1 ⟨rfl,rfl⟩;rw[HI.out];go_wp2_with fail;go_quiet (fail);go_wp2;go_ret3;rw[eA.out,eD.out];exact⟨rfl,aO _ _ _⟩
 ·rw[decide_eq_false hm];have hI:=ad (i1 hm);have eA:Hid (A=s) :=by show _=_;rw[hA.out,xN hm,az]
  have eD:Hid (D= {data:= #[]}) :=by show _=_;rw[hD.out,xJ hm];rfl
  clear i1 i2 hm;go_enter Tryz.func252,Tryz.ntmps252;go_wp2_with fail;refine(Tryz.stringslite_Index_one s c w).mono ?_;rintro e w1 ⟨rfl,rfl⟩;rw[hI.out];go_wp2;go_ret3;rw[eA.out,eD.out];exact⟨rfl,aF⟩
theorem zX (s:ByteArray)(c:UInt8)(w:World)(hs:s.size<=maxLen) :Calls Tryz.prog 232 #[.string s,.string ⟨#[c]⟩] w fun e w'=>
 e= .returned (.tuple #[.string (strOfNums (jF c.toNat (af s))),.string (strOfNums (xL c.toNat (af s))),.bool (decide ((c.toNat:Int)∈af s))])/\Below w.heap.size w w':=by
 obtain⟨A,hA⟩:=named (strOfNums (jF c.toNat (af s)));obtain⟨D,hD⟩:=named (strOfNums (xL c.toNat (af s)));obtain⟨B,hB⟩:=named (decide ((c.toNat:Int)∈af s));have C:=GK s c w hs;rw[<- hA.out,<- hD.out,<- hB.out]at C⊢;have HC:=ad C;clear C;go_enter Tryz.func232,Tryz.ntmps232;go_wp2_with fail;refine HC.out.mono ?_;rintro e w1 ⟨rfl,b1⟩;go_wp2_with fail;go_ret3;exact⟨rfl,b1⟩
theorem Kk (s:ByteArray)(w:World)(hs:s.size<=maxLen)(hp:1<=s.size)(h: (af s).getD (s.size- 1) 0=10) :Calls Tryz.prog 234 #[.string s,.string {data:= #[10]}] w fun e w'=>
 e= .returned (.tuple #[.string (s.extract 0 (s.size- 1)),.bool true])/\w=w':=by
 refine(Tryz.strings_CutSuffix s {data:= #[10]} w hs).mono ?_;rintro e w' ⟨rfl,rfl⟩;have hl:s.data.toList.length=s.size:= (Lib.size_eq s).symm
 have hlast:s.data.toList[s.size- 1]? =some 10:=by
  rw[List.getElem?_eq_getElem (by omega)];rw[cm,List.getD_eq_getElem?_getD,List.getElem?_map,List.getElem?_eq_getElem (by omega)]at h;have h2: ((s.data.toList[s.size- 1]'(by omega)).toNat:Int) =10:=h
  congr 1
  apply UInt8.toNat_inj.1;show _=10;omega
 have hsuf:Lib.hasSuffix s.data.toList [10] =true:=by
  unfold Lib.hasSuffix;rw[List.isSuffixOf_iff_suffix];refine⟨s.data.toList.take (s.size- 1),?_⟩;have:=List.take_append_drop (s.size- 1) s.data.toList
  conv=>rhs;rw[<- this]
  congr 1
  rw[List.drop_eq_getElem_cons (by omega),List.drop_eq_nil_of_le (by omega)];rw[List.getElem?_eq_getElem (by omega)]at hlast;rw[Option.some.inj hlast]
 refine⟨?_,rfl⟩
 have e1: (⟨(Lib.trimSuffix s.data.toList [10]).toArray⟩:ByteArray) =s.extract 0 (s.size- 1) :=by
  unfold Lib.trimSuffix;rw[hsuf,if_pos rfl];apply ByteArray.ext;rw[ByteArray.data_extract];apply Array.ext';rw[Array.toList_extract,List.extract_eq_take_drop];simp[hl]
 show Ending.returned (.tuple #[.string ⟨(Lib.trimSuffix s.data.toList [10]).toArray⟩,.bool (Lib.hasSuffix s.data.toList [10])]) =_;rw[e1,hsuf]
theorem OP (s:ByteArray)(w:World)(hs:s.size<=maxLen)(h:s.size=0\/ (af s).getD (s.size- 1) 0≠10) :Calls Tryz.prog 234 #[.string s,.string {data:= #[10]}] w fun e w'=>
 e= .returned (.tuple #[.string s,.bool false])/\w=w':=by
 refine(Tryz.strings_CutSuffix s {data:= #[10]} w hs).mono ?_;rintro e w' ⟨rfl,rfl⟩;have hl:s.data.toList.length=s.size:= (Lib.size_eq s).symm
 have hsuf:Lib.hasSuffix s.data.toList [10] =false:=by
  rw[Bool.eq_false_iff];intro h1;unfold Lib.hasSuffix at h1;rw[List.isSuffixOf_iff_suffix]at h1;obtain⟨t,ht⟩:=h1;have hlt:=congrArg List.length ht;rw[List.length_append,List.length_singleton,hl]at hlt;rcases h with h|h
  ·omega
  ·apply h;rw[cm,<- ht,List.getD_eq_getElem?_getD,List.getElem?_map,List.getElem?_append_right (by omega),show s.size- 1- t.length=0 by omega];rfl
 have e1: (⟨(Lib.trimSuffix s.data.toList [10]).toArray⟩:ByteArray) =s:=by
  unfold Lib.trimSuffix;rw[hsuf,if_neg (by decide)]
 refine⟨?_,rfl⟩;show Ending.returned (.tuple #[.string ⟨(Lib.trimSuffix s.data.toList [10]).toArray⟩,.bool (Lib.hasSuffix s.data.toList [10])]) =_;rw[e1,hsuf]
end Go.Proofs.YtcjagakckffkiaaGreatDoor.bL
namespace Go.Proofs.YtcjagakckffkiaaGreatDoor.bL
open Go.RowKit
set_option maxRecDepth 100000 in
theorem Ft (s:ByteArray)(w:World)(A A2:ByteArray)(SP OK:Bool)(N:Int)
 (C1:Hid (∀w',Calls Tryz.prog 232 #[.string s,.string {data:= #[32]}] w' fun e w''=>e= .returned (.tuple #[.string A,.string A2,.bool SP])/\Below w'.heap.size w' w''))
 (P1:Hid (∀w',Calls Tryz.prog 233 #[.string A] w' fun e w''=>e= .returned (.tuple #[.int .i64 N,.bool OK])/\Below w'.heap.size w' w''))
 (h:SP=false\/ (SP=true/\OK=false)\/ (SP=true/\OK=true/\N<1)\/ (SP=true/\OK=true/\¬N<1/\999999<N)) :Calls Tryz.prog 208 #[.string s] w fun e w'=>e= .returned (.tuple #[.agg (rz:List Value).toArray,.int .i64 6])/\Below w.heap.size w w':=by
 have HZ:=ad uY;have HO:=ad uz;rcases h with rfl|⟨rfl,rfl⟩|⟨rfl,rfl,h⟩|⟨rfl,rfl,h,h2⟩
 all_goals
  go_enter Tryz.func208,Tryz.ntmps208;go_wp2_with (first| (refine ag rfl 202 rfl rz HZ.out ?_;intro w1 g1 b1;have H1:=ad g1;have B1:=ad b1;clear g1 b1));refine(C1.out _).mono ?_;rintro e w2 ⟨rfl,b2⟩;have H2:=ad (H1.out.below b2 H1.out.lt);have B2:=ad (ar B1.out b2);clear b2;go_wp2_with fail;refine(P1.out _).mono ?_;rintro e w3 ⟨rfl,b3⟩;have H3:=ad (H2.out.below b3 H2.out.lt);have B3:=ad (ar B2.out b3);clear b3;go_wp2_with (first| (refine ae rfl 202 _ _ rfl w.heap.size rfl rz rz rfl 202 H3.out HO.out.2 rfl (uf) ?_;intro w4 g4 t4;have H4:=ad g4;have T4:=ad t4;clear g4 t4));exact bodyPost_ret (aH Tryz.results208 HO.out _ w.heap.size rfl _ rz H4.out rfl) rfl ⟨rfl,B3.out.trans (T4.out.below ah)⟩
set_option maxRecDepth 100000 in
theorem Ed (s:ByteArray)(w:World)(A A2:ByteArray)(N:Int)
 (C1:Hid (∀w',Calls Tryz.prog 232 #[.string s,.string {data:= #[32]}] w' fun e w''=>e= .returned (.tuple #[.string A,.string A2,.bool true])/\Below w'.heap.size w' w''))
 (P1:Hid (∀w',Calls Tryz.prog 233 #[.string A] w' fun e w''=>e= .returned (.tuple #[.int .i64 N,.bool true])/\Below w'.heap.size w' w''))
 (h1:¬N<1)(h2:¬999999<N)(h3: (s.size:Int) <N) :Calls Tryz.prog 208 #[.string s] w fun e w'=>e= .returned (.tuple #[.agg (rz:List Value).toArray,.int .i64 5])/\Below w.heap.size w w':=by
 have HZ:=ad uY;have HO:=ad uz;go_enter Tryz.func208,Tryz.ntmps208;go_wp2_with (first| (refine ag rfl 202 rfl rz HZ.out ?_;intro w1 g1 b1;have H1:=ad g1;have B1:=ad b1;clear g1 b1));refine(C1.out _).mono ?_;rintro e w2 ⟨rfl,b2⟩;have H2:=ad (H1.out.below b2 H1.out.lt);have B2:=ad (ar B1.out b2);clear b2;go_wp2_with fail;refine(P1.out _).mono ?_;rintro e w3 ⟨rfl,b3⟩;have H3:=ad (H2.out.below b3 H2.out.lt);have B3:=ad (ar B2.out b3);clear b3;go_wp2_with (first| (refine ae rfl 202 _ _ rfl w.heap.size rfl rz rz rfl 202 H3.out HO.out.2 rfl (uf) ?_;intro w4 g4 t4;have H4:=ad g4;have T4:=ad t4;clear g4 t4));exact bodyPost_ret (aH Tryz.results208 HO.out _ w.heap.size rfl _ rz H4.out rfl) rfl ⟨rfl,B3.out.trans (T4.out.below ah)⟩
set_option maxRecDepth 100000 in
theorem ov (s:ByteArray)(w:World)(A A2:ByteArray)(n:Nat)
 (C1:Hid (∀w',Calls Tryz.prog 232 #[.string s,.string {data:= #[32]}] w' fun e w''=>e= .returned (.tuple #[.string A,.string A2,.bool true])/\Below w'.heap.size w' w''))
 (P1:Hid (∀w',Calls Tryz.prog 233 #[.string A] w' fun e w''=>e= .returned (.tuple #[.int .i64 (n:Int),.bool true])/\Below w'.heap.size w' w''))
 (h1:¬(n:Int) <1)(h2:¬(999999:Int) <n)(h3: (n:Int)<=s.size)(L X1 T K D:ByteArray)(NL X2 EQ:Bool)
 (C2:Hid (∀w',Calls Tryz.prog 234 #[.string (s.extract 0 n),.string {data:= #[10]}] w' fun e w''=>e= .returned (.tuple #[.string L,.bool NL])/\w'=w''))
 (C3:Hid (∀w',Calls Tryz.prog 232 #[.string L,.string {data:= #[32]}] w' fun e w''=>e= .returned (.tuple #[.string X1,.string T,.bool X2])/\Below w'.heap.size w' w''))
 (C4:Hid (∀w',Calls Tryz.prog 232 #[.string T,.string {data:= #[61]}] w' fun e w''=>e= .returned (.tuple #[.string K,.string D,.bool EQ])/\Below w'.heap.size w' w''))
 (h:NL=false\/ (NL=true/\EQ=false)) :Calls Tryz.prog 208 #[.string s] w fun e w'=>e= .returned (.tuple #[.agg (rz:List Value).toArray,.int .i64 6])/\Below w.heap.size w w':=by
 have HZ:=ad uY;have HO:=ad uz;rcases h with rfl|⟨rfl,rfl⟩
 all_goals
  go_enter Tryz.func208,Tryz.ntmps208;go_wp2_with (first| (refine ag rfl 202 rfl rz HZ.out ?_;intro w1 g1 b1;have H1:=ad g1;have B1:=ad b1;clear g1 b1));refine(C1.out _).mono ?_;rintro e w2 ⟨rfl,b2⟩;have H2:=ad (H1.out.below b2 H1.out.lt);have B2:=ad (ar B1.out b2);clear b2;go_wp2_with fail;refine(P1.out _).mono ?_;rintro e w3 ⟨rfl,b3⟩;have H3:=ad (H2.out.below b3 H2.out.lt);have B3:=ad (ar B2.out b3);clear b3;go_wp2_with fail;refine(C2.out _).mono ?_;rintro e w4 ⟨rfl,rfl⟩;go_wp2_with fail;refine(C3.out _).mono ?_;rintro e w5 ⟨rfl,b5⟩;have H5:=ad (H3.out.below b5 H3.out.lt);have B5:=ad (ar B3.out b5);clear b5;go_wp2_with fail;refine(C4.out _).mono ?_;rintro e w6 ⟨rfl,b6⟩;have H6:=ad (H5.out.below b6 H5.out.lt);have B6:=ad (ar B5.out b6);clear b6;go_wp2_with (first| (refine ag rfl 202 rfl rz HZ.out ?_;intro w7 g7 b7;have R7:=ad g7;have H7:=ad (H6.out.below b7 H6.out.lt);have B7:=ad (ar B6.out b7);clear g7 b7) | (refine ae rfl 202 _ _ rfl w6.heap.size rfl [.string K,.string D] rz rfl 202 R7.out HO.out.2 rfl (eF _ _) ?_;intro w8 g8 t8;have R8:=ad g8;have H8:=ad (H7.out.aD t8 (Nat.ne_of_lt H6.out.lt));have B8:=ad (B7.out.trans (t8.below B6.out.size));clear g8 t8) | (refine ae rfl 202 _ _ rfl w.heap.size rfl rz rz rfl 202 H8.out HO.out.2 rfl uf ?_;intro w9 g9 t9;have H9:=ad g9;have T9:=ad t9;clear g9 t9));exact bodyPost_ret (aH Tryz.results208 HO.out _ w.heap.size rfl _ rz H9.out rfl) rfl ⟨rfl,B8.out.trans (T9.out.below ah)⟩
set_option maxRecDepth 100000 in
theorem It (s:ByteArray)(w:World)(A A2:ByteArray)(n:Nat)
 (C1:Hid (∀w',Calls Tryz.prog 232 #[.string s,.string {data:= #[32]}] w' fun e w''=>e= .returned (.tuple #[.string A,.string A2,.bool true])/\Below w'.heap.size w' w''))
 (P1:Hid (∀w',Calls Tryz.prog 233 #[.string A] w' fun e w''=>e= .returned (.tuple #[.int .i64 (n:Int),.bool true])/\Below w'.heap.size w' w''))
 (h1:¬(n:Int) <1)(h2:¬(999999:Int) <n)(h3: (n:Int)<=s.size)(L X1 T K D:ByteArray)(X2:Bool)
 (C2:Hid (∀w',Calls Tryz.prog 234 #[.string (s.extract 0 n),.string {data:= #[10]}] w' fun e w''=>e= .returned (.tuple #[.string L,.bool true])/\w'=w''))
 (C3:Hid (∀w',Calls Tryz.prog 232 #[.string L,.string {data:= #[32]}] w' fun e w''=>e= .returned (.tuple #[.string X1,.string T,.bool X2])/\Below w'.heap.size w' w''))
 (C4:Hid (∀w',Calls Tryz.prog 232 #[.string T,.string {data:= #[61]}] w' fun e w''=>e= .returned (.tuple #[.string K,.string D,.bool true])/\Below w'.heap.size w' w''))
 (Z:Int)(C5:Hid (∀w',Below w.heap.size w w'->Calls Tryz.prog 201 #[.agg #[.string K,.string D]] w' fun e w''=>e= .returned (.int .i64 Z)/\Below w'.heap.size w' w''))
 (h: ((n:Int) !=Z) =true) :Calls Tryz.prog 208 #[.string s] w fun e w'=>e= .returned (.tuple #[.agg (rz:List Value).toArray,.int .i64 6])/\Below w.heap.size w w':=by
 have HZ:=ad uY;have HO:=ad uz;go_enter Tryz.func208,Tryz.ntmps208;go_wp2_with (first| (refine ag rfl 202 rfl rz HZ.out ?_;intro w1 g1 b1;have H1:=ad g1;have B1:=ad b1;clear g1 b1));refine(C1.out _).mono ?_;rintro e w2 ⟨rfl,b2⟩;have H2:=ad (H1.out.below b2 H1.out.lt);have B2:=ad (ar B1.out b2);clear b2;go_wp2_with fail;refine(P1.out _).mono ?_;rintro e w3 ⟨rfl,b3⟩;have H3:=ad (H2.out.below b3 H2.out.lt);have B3:=ad (ar B2.out b3);clear b3;go_wp2_with fail;refine(C2.out _).mono ?_;rintro e w4 ⟨rfl,rfl⟩;go_wp2_with fail;refine(C3.out _).mono ?_;rintro e w5 ⟨rfl,b5⟩;have H5:=ad (H3.out.below b5 H3.out.lt);have B5:=ad (ar B3.out b5);clear b5;go_wp2_with fail;refine(C4.out _).mono ?_;rintro e w6 ⟨rfl,b6⟩;have H6:=ad (H5.out.below b6 H5.out.lt);have B6:=ad (ar B5.out b6);clear b6;go_wp2_with (first| (refine ag rfl 202 rfl rz HZ.out ?_;intro w7 g7 b7;have R7:=ad g7;have H7:=ad (H6.out.below b7 H6.out.lt);have B7:=ad (ar B6.out b7);clear g7 b7) | (refine ae rfl 202 _ _ rfl w6.heap.size rfl [.string K,.string D] rz rfl 202 R7.out HO.out.2 rfl (eF _ _) ?_;intro w8 g8 t8;have R8:=ad g8;have H8:=ad (H7.out.aD t8 (Nat.ne_of_lt H6.out.lt));have B8:=ad (B7.out.trans (t8.below B6.out.size));have c0:=g8.get 0 rfl;have c1:=g8.get 1 rfl;clear g8 t8));refine(C5.out _ B8.out).mono ?_;rintro e w9 ⟨rfl,b9⟩;have H9:=ad (H8.out.below b9 H8.out.lt);have R9:=ad (R8.out.below b9 R8.out.lt);have B9:=ad (ar B8.out b9);clear b9 c0 c1;go_wp2_with (first| (refine ae rfl 202 _ _ rfl w.heap.size rfl rz rz rfl 202 H9.out HO.out.2 rfl uf ?_;intro w10 g10 t10;have H10:=ad g10;have T10:=ad t10;clear g10 t10));exact bodyPost_ret (aH Tryz.results208 HO.out _ w.heap.size rfl _ rz H10.out rfl) rfl ⟨rfl,B9.out.trans (T10.out.below ah)⟩
set_option maxRecDepth 100000 in
theorem Ll (s:ByteArray)(w:World)(A A2:ByteArray)(n:Nat)
 (C1:Hid (∀w',Calls Tryz.prog 232 #[.string s,.string {data:= #[32]}] w' fun e w''=>e= .returned (.tuple #[.string A,.string A2,.bool true])/\Below w'.heap.size w' w''))
 (P1:Hid (∀w',Calls Tryz.prog 233 #[.string A] w' fun e w''=>e= .returned (.tuple #[.int .i64 (n:Int),.bool true])/\Below w'.heap.size w' w''))
 (h1:¬(n:Int) <1)(h2:¬(999999:Int) <n)(h3: (n:Int)<=s.size)(L X1 T K D:ByteArray)(X2:Bool)
 (C2:Hid (∀w',Calls Tryz.prog 234 #[.string (s.extract 0 n),.string {data:= #[10]}] w' fun e w''=>e= .returned (.tuple #[.string L,.bool true])/\w'=w''))
 (C3:Hid (∀w',Calls Tryz.prog 232 #[.string L,.string {data:= #[32]}] w' fun e w''=>e= .returned (.tuple #[.string X1,.string T,.bool X2])/\Below w'.heap.size w' w''))
 (C4:Hid (∀w',Calls Tryz.prog 232 #[.string T,.string {data:= #[61]}] w' fun e w''=>e= .returned (.tuple #[.string K,.string D,.bool true])/\Below w'.heap.size w' w''))
 (Z:Int)(C5:Hid (∀w',Below w.heap.size w w'->Calls Tryz.prog 201 #[.agg #[.string K,.string D]] w' fun e w''=>e= .returned (.int .i64 Z)/\Below w'.heap.size w' w''))
 (h: ((n:Int) !=Z) =false) :Calls Tryz.prog 208 #[.string s] w fun e w'=>e= .returned (.tuple #[.agg ([.string K,.string D] :List Value).toArray,.int .i64 0])/\Below w.heap.size w w':=by
 have HZ:=ad uY;have HO:=ad uz;go_enter Tryz.func208,Tryz.ntmps208;go_wp2_with (first| (refine ag rfl 202 rfl rz HZ.out ?_;intro w1 g1 b1;have H1:=ad g1;have B1:=ad b1;clear g1 b1));refine(C1.out _).mono ?_;rintro e w2 ⟨rfl,b2⟩;have H2:=ad (H1.out.below b2 H1.out.lt);have B2:=ad (ar B1.out b2);clear b2;go_wp2_with fail;refine(P1.out _).mono ?_;rintro e w3 ⟨rfl,b3⟩;have H3:=ad (H2.out.below b3 H2.out.lt);have B3:=ad (ar B2.out b3);clear b3;go_wp2_with fail;refine(C2.out _).mono ?_;rintro e w4 ⟨rfl,rfl⟩;go_wp2_with fail;refine(C3.out _).mono ?_;rintro e w5 ⟨rfl,b5⟩;have H5:=ad (H3.out.below b5 H3.out.lt);have B5:=ad (ar B3.out b5);clear b5;go_wp2_with fail;refine(C4.out _).mono ?_;rintro e w6 ⟨rfl,b6⟩;have H6:=ad (H5.out.below b6 H5.out.lt);have B6:=ad (ar B5.out b6);clear b6;go_wp2_with (first| (refine ag rfl 202 rfl rz HZ.out ?_;intro w7 g7 b7;have R7:=ad g7;have H7:=ad (H6.out.below b7 H6.out.lt);have B7:=ad (ar B6.out b7);clear g7 b7) | (refine ae rfl 202 _ _ rfl w6.heap.size rfl [.string K,.string D] rz rfl 202 R7.out HO.out.2 rfl (eF _ _) ?_;intro w8 g8 t8;have R8:=ad g8;have H8:=ad (H7.out.aD t8 (Nat.ne_of_lt H6.out.lt));have B8:=ad (B7.out.trans (t8.below B6.out.size));have c0:=g8.get 0 rfl;have c1:=g8.get 1 rfl;clear g8 t8));refine(C5.out _ B8.out).mono ?_;rintro e w9 ⟨rfl,b9⟩;have H9:=ad (H8.out.below b9 H8.out.lt);have R9:=ad (R8.out.below b9 R8.out.lt);have B9:=ad (ar B8.out b9);clear b9 c0 c1;have c0:=R9.out.get 0 rfl;have c1:=R9.out.get 1 rfl;go_wp2_with (first| (refine ae rfl 202 _ _ rfl w.heap.size rfl [.string K,.string D] rz rfl 202 H9.out HO.out.2 rfl (eF _ _) ?_;intro w10 g10 t10;have H10:=ad g10;have T10:=ad t10;clear g10 t10));exact bodyPost_ret (aH Tryz.results208 HO.out _ w.heap.size rfl _ [.string K,.string D] H10.out rfl) rfl ⟨rfl,B9.out.trans (T10.out.below ah)⟩
end Go.Proofs.YtcjagakckffkiaaGreatDoor.bL
namespace Go.Proofs.YtcjagakckffkiaaGreatDoor.bL
open Go.RowKit
def rG (zs:List Int) :Rec:=if mv zs=0 then lQ zs else({data:= #[]},{data:= #[]})
theorem Dv {c:Int}{zs:List Int}(h:∀z∈zs,0<=z/\z<=255) :∀z∈jF c zs,0<=z/\z<=255:=fun z hz=>h z ((List.takeWhile_prefix _).subset hz)
theorem Hj {c:Int}{zs:List Int}(h:∀z∈zs,0<=z/\z<=255) :∀z∈xL c zs,0<=z/\z<=255:=fun z hz=>h z (List.mem_of_mem_drop hz)
theorem JP {zs:List Int}(n:Nat)(h:∀z∈zs,0<=z/\z<=255) :∀z∈zs.take n,0<=z/\z<=255:=fun z hz=>h z (List.mem_of_mem_take hz)
theorem wU {c:Int}{zs:List Int}{m:Nat}(h:c∈zs)(hm: (jF c zs).length<m) :jF c (zs.take m) =jF c zs/\c∈zs.take m:=by
 obtain⟨k,hk⟩:∃k,m= (jF c zs).length+ (k+1) :=⟨m- (jF c zs).length- 1,by omega⟩
 have e:zs.take m=jF c zs++c:: (zs.drop ((jF c zs).length+1)).take k:=by
  conv=>lhs;rw[gE h]
  rw[hk,List.take_length_add_append,List.take_succ_cons]
 constructor
 ·rw[e,uq (Hv c zs)]
 ·rw[e];simp
theorem yu {c:Int}{zs:List Int}{m:Nat}(hm:m<= (jF c zs).length) :c∉zs.take m:=fun h=>by
 have e:zs.take m= (jF c zs).take m:=by
  conv=>rhs;rw[qS,List.take_take,Nat.min_eq_left hm]
 rw[e]at h;exact Hv c zs (List.mem_of_mem_take h)
theorem vi {zs:List Int}{m:Nat}(h:zs.length<=m)(hb:∀z∈zs,0<=z/\z<=255) : (strOfNums zs).size<=m:=by
 rw[<- an,av hb];exact h
theorem yP (s:ByteArray)(w:World)(V:iX w)(hs:s.size<=300000) :Calls Tryz.prog 208 #[.string s] w fun e w'=>
 e= .returned (.tuple #[.agg #[.string (rG (af s)).1,.string (rG (af s)).2],.int .i64 (mv (af s))])/\Below w.heap.size w w':=by
 obtain⟨zs,hzs⟩:∃zs,zs=af s:=⟨_,rfl⟩;have hb:∀z∈zs,0<=z/\z<=255:=by rw[hzs];exact dw s
 have hlen:zs.length=s.size:=by rw[hzs,an]
 have mx:∀k:Nat,k<=300000->k<=maxLen:=fun k hk=>by unfold maxLen;omega
 rw[<- hzs]
 have C1:Hid (∀w',Calls Tryz.prog 232 #[.string s,.string {data:= #[32]}] w' fun e w''=>e= .returned (.tuple #[.string (strOfNums (ke zs)),.string (strOfNums (xL 32 zs)),.bool (decide ((32:Int)∈zs))])/\Below w'.heap.size w' w'') :=fun w'=>by
  rw[hzs];exact zX s 32 w' (mx _ hs)
 have hA:af (strOfNums (ke zs)) =ke zs:=av (Dv hb);have hAs: (strOfNums (ke zs)).size<=maxLen:=mx _ (vi (by have:=Ek 32 zs;unfold ke;omega) (Dv hb))
 have P1:Hid (∀w',Calls Tryz.prog 233 #[.string (strOfNums (ke zs))] w' fun e w''=>e= .returned (.tuple #[.int .i64 (Gh (ke zs)),.bool (cU (ke zs))])/\Below w'.heap.size w' w'') :=fun w'=>by
  have:=vX (strOfNums (ke zs)) w' hAs
  rwa [hA]at this
 by_cases h1: (32:Int)∉zs\/cU (ke zs) =false\/ig zs=0\/999999<ig zs
 ·have eE:mv zs=6:=by unfold mv;rw[if_pos h1]
  have eX:rG zs= ({data:= #[]},{data:= #[]}) :=by unfold rG;rw[eE];rfl
  rw[eX,eE];refine Ft s w _ _ _ _ _ C1 P1 ?_;by_cases a1: (32:Int)∈zs
  ·rw[decide_eq_true a1];by_cases a2:cU (ke zs) =false
   ·exact .inr (.inl ⟨rfl,a2⟩)
   ·have a2':cU (ke zs) =true:=by simpa using a2
    have a3:= (h1.resolve_left (fun h=>h a1)).resolve_left a2;have ep:Gh (ke zs) =min (ig zs:Int) 1099511627777:=by unfold Gh;rw[if_pos a2'];rfl
    rw[ep];rcases a3 with a3|a3
    ·exact .inr (.inr (.inl ⟨rfl,a2',by omega⟩))
    ·exact .inr (.inr (.inr ⟨rfl,a2',by omega,by omega⟩))
  ·rw[decide_eq_false a1];exact .inl rfl
 ·have h1':=h1;simp only[not_or,Decidable.not_not,Bool.not_eq_false,Nat.not_lt]at h1;obtain⟨a1,a2,a3,a4⟩:=h1;rw[decide_eq_true a1]at C1;have ep:Gh (ke zs) = (ig zs:Int) :=by unfold Gh;rw[if_pos a2];show min (ig zs:Int) _=_;omega
  rw[ep,a2]at P1;by_cases h2:zs.length<ig zs
  ·have eE:mv zs=5:=by unfold mv;rw[if_neg h1',if_pos h2]
   have eX:rG zs= ({data:= #[]},{data:= #[]}) :=by unfold rG;rw[eE];rfl
   rw[eX,eE];exact Ed s w _ _ _ C1 P1 (by omega) (by omega) (by omega)
  ·obtain⟨n,hn⟩:∃n,n=ig zs:=⟨_,rfl⟩;rw[<- hn]at P1 a3 a4 h2;have hex:af (s.extract 0 n) =zs.take n:=by rw[iQ,<- hzs];rfl
   have hexs: (s.extract 0 n).size=n:=by rw[<- an,hex,List.length_take];omega
   have cutA:∀(t:ByteArray) (c:UInt8),t.size<=300000->Hid (∀w',Calls Tryz.prog 232 #[.string t,.string ⟨#[c]⟩] w' fun e w''=>
    e= .returned (.tuple #[.string (strOfNums (jF c.toNat (af t))),.string (strOfNums (xL c.toNat (af t))),.bool (decide ((c.toNat:Int)∈af t))])/\Below w'.heap.size w' w'') :=fun t c ht w'=>zX t c w' (mx _ ht)
   have asz:∀(c:Int) (t:ByteArray),t.size<=300000-> (strOfNums (xL c (af t))).size<=300000:=fun c t ht=>vi (by unfold xL;rw[List.length_drop,an];omega) (Hj (dw t));by_cases h3:zs.getD (n- 1) 0=10
   ·have C2:Hid (∀w',Calls Tryz.prog 234 #[.string (s.extract 0 n),.string {data:= #[10]}] w' fun e w''=>e= .returned (.tuple #[.string ((s.extract 0 n).extract 0 (n- 1)),.bool true])/\w'=w'') :=fun w'=>by
     have:=Kk (s.extract 0 n) w' (mx _ (by omega)) (by omega) (by rw[hex,hexs,List.getD_eq_getElem?_getD,List.getElem?_take,if_pos (by omega),<- List.getD_eq_getElem?_getD];exact h3)
     rwa [hexs]at this
    obtain⟨L,hL⟩:∃L,L= (s.extract 0 n).extract 0 (n- 1) :=⟨_,rfl⟩;rw[<- hL]at C2;have hLn:af L=zs.take (n- 1) :=by rw[hL,iQ,hex,List.drop_zero,Nat.sub_zero,List.take_take,Nat.min_eq_left (by omega)]
    have hLs:L.size<=300000:=by rw[<- an,hLn,List.length_take];omega
    have C3:=cutA L 32 hLs;obtain⟨T,hT⟩:∃T,T=strOfNums (xL ((32:UInt8).toNat:Int) (af L)) :=⟨_,rfl⟩;have hTn:af T=xL 32 (zs.take (n- 1)) :=by rw[hT,hLn];exact av (Hj (JP _ hb))
    have hTs:T.size<=300000:=by rw[hT];exact asz _ L hLs
    rw[<- hT]at C3;have C4:=cutA T 61 hTs;by_cases h4:n< (ke zs).length+2
    ·have hT0:af T= [] :=by rw[hTn];exact xJ (yu (by unfold ke at h4;omega))
     have hEQ:decide (((61:UInt8).toNat:Int)∈af T) =false:=by rw[hT0];rfl
     rw[hEQ]at C4;have eE:mv zs=6:=by unfold mv;rw[if_neg h1',if_neg (by rw[<- hn];exact h2),if_pos (.inl (by rw[<- hn];exact h4))]
     have eX:rG zs= ({data:= #[]},{data:= #[]}) :=by unfold rG;rw[eE];rfl
     rw[eX,eE];exact ov s w _ _ n C1 P1 (by omega) (by omega) (by omega) L _ T _ _ true _ false C2 C3 C4 (.inr ⟨rfl,rfl⟩)
    ·have hTB:af T=tt zs:=by
      rw[hTn];unfold xL;rw[(wU a1 (show(jF 32 zs).length<n- 1 by unfold ke at h4;omega)).1];unfold tt;rw[<- hn];rfl
     rw[hTB]at C4;by_cases h5: (61:Int)∈tt zs
     ·have hEQ:decide (((61:UInt8).toNat:Int)∈tt zs) =true:=decide_eq_true h5;rw[hEQ]at C4;have hKD:strOfNums (jF ((61:UInt8).toNat:Int) (tt zs)) = (lQ zs).1/\strOfNums (xL ((61:UInt8).toNat:Int) (tt zs)) = (lQ zs).2:=⟨rfl,rfl⟩;rw[hKD.1,hKD.2]at C4;have C3':Hid (∀w',Calls Tryz.prog 232 #[.string L,.string {data:= #[32]}] w' fun e w''=>e= .returned (.tuple #[.string (strOfNums (jF ((32:UInt8).toNat:Int) (af L))),.string T,.bool (decide (((32:UInt8).toNat:Int)∈af L))])/\Below w'.heap.size w' w'') :=C3;have ho:=yW hb
      have ho6:mB ((lQ zs).1,(lQ zs).2)<=1000000:=by
       show mB (lQ zs)<=_;rw[ho];have:=yO zs;omega
      have C5:Hid (∀w',Below w.heap.size w w'->Calls Tryz.prog 201 #[.agg #[.string (lQ zs).1,.string (lQ zs).2]] w' fun e w''=>e= .returned (.int .i64 ((lv (lQ zs) :Nat) :Int))/\Below w'.heap.size w' w'') :=fun w' hbw=>
       rC (lQ zs).1 (lQ zs).2 w' (V.go hbw) ho6
      have hsz:lv (lQ zs) =pA ((wv zs).length+ (yc zs).length+3) :=by unfold lv;rw[ho]
      by_cases h6:pA ((wv zs).length+ (yc zs).length+3) =ig zs
      ·have T0:Cw zs:=⟨a1,a2,by omega,by omega,by omega,by omega,by rw[<- hn];exact h3,h5,h6⟩;have eE:mv zs=0:= (vo zs).2 T0;have eX:rG zs=lQ zs:=by unfold rG;rw[if_pos eE]
       rw[eX,eE];exact Ll s w _ _ n C1 P1 (by omega) (by omega) (by omega) L _ T _ _ _ C2 C3' C4 _ C5 (by rw[hsz,h6,hn];simp)
      ·have eE:mv zs=6:=by unfold mv;rw[if_neg h1',if_neg (by rw[<- hn];exact h2),if_pos (.inr (.inr (.inr h6)))]
       have eX:rG zs= ({data:= #[]},{data:= #[]}) :=by unfold rG;rw[eE];rfl
       rw[eX,eE];exact It s w _ _ n C1 P1 (by omega) (by omega) (by omega) L _ T _ _ _ C2 C3' C4 _ C5 (by rw[hsz,hn];simp;omega)
     ·have hEQ:decide (((61:UInt8).toNat:Int)∈tt zs) =false:=decide_eq_false h5;rw[hEQ]at C4;have eE:mv zs=6:=by unfold mv;rw[if_neg h1',if_neg (by rw[<- hn];exact h2),if_pos (.inr (.inr (.inl h5)))]
      have eX:rG zs= ({data:= #[]},{data:= #[]}) :=by unfold rG;rw[eE];rfl
      rw[eX,eE];exact ov s w _ _ n C1 P1 (by omega) (by omega) (by omega) L _ T _ _ true _ false C2 C3 C4 (.inr ⟨rfl,rfl⟩)
   ·have C2:Hid (∀w',Calls Tryz.prog 234 #[.string (s.extract 0 n),.string {data:= #[10]}] w' fun e w''=>e= .returned (.tuple #[.string (s.extract 0 n),.bool false])/\w'=w'') :=fun w'=>
     OP (s.extract 0 n) w' (mx _ (by omega)) (.inr (by rw[hex,hexs,List.getD_eq_getElem?_getD,List.getElem?_take,if_pos (by omega),<- List.getD_eq_getElem?_getD];exact h3))
    have C3:=cutA (s.extract 0 n) 32 (by omega);have C4:=cutA (strOfNums (xL ((32:UInt8).toNat:Int) (af (s.extract 0 n)))) 61 (asz _ _ (by omega));have eE:mv zs=6:=by unfold mv;rw[if_neg h1',if_neg (by rw[<- hn];exact h2),if_pos (.inr (.inl (by rw[<- hn];exact h3)))]
    have eX:rG zs= ({data:= #[]},{data:= #[]}) :=by unfold rG;rw[eE];rfl
    rw[eX,eE];exact ov s w _ _ n C1 P1 (by omega) (by omega) (by omega) _ _ _ _ _ false _ _ C2 C3 C4 (.inl rfl)
end Go.Proofs.YtcjagakckffkiaaGreatDoor.bL
namespace Go.Proofs.YtcjagakckffkiaaGreatDoor.bL
open Go.RowKit
theorem ay {P:Program}{w:World}{fn:Func}{p q r:Tmp}{T:TypeId}{n:Nat}(h:fn.results= #[.cell p T,.tmp q,.tmp r])(hT:ij P T n)(tmps:Array Value)(g:Nat)(hp:tmps.getD p undef= .pointer (some ⟨g,0,none⟩))
 (T':TypeId)(vs:List Value)(hg:ak w g T' vs)(hl:vs.length=n) : (results fn tmps).run P w= .ok (.tuple #[.agg vs.toArray,tmps.getD q undef,tmps.getD r undef]) w:=by
 have hp':tmps[p]?.getD undef= .pointer (some ⟨g,0,none⟩) :=by simpa using hp
 simp[results,h,hp',asAddr,fh hT g T' vs hg hl]
end Go.Proofs.YtcjagakckffkiaaGreatDoor.bL
