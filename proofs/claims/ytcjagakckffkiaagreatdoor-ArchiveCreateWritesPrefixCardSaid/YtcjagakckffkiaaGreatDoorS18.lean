import Derived.Test.YtcjagakckffkiaaGreatDoorS17
set_option maxHeartbeats 16000000
set_option maxRecDepth 100000
namespace Go.Proofs.YtcjagakckffkiaaGreatDoor
namespace Oct
open Go.RowKit
def nK (n:Int) :Bool:=decide (2<=n/\n<=22)
theorem Bn {k:IntKind}{a b:Int}(h:a=b) :Ending.returned (.int k a) = .returned (.int k b) :=by rw[h]
theorem dR (n:Int)(w:World) :
 Calls Tryz.prog 226 #[.int .i64 n] w fun e w'=>e= .returned (.bool (nK n))/\w=w':=by
 by_cases h1:2<=n
 ·by_cases h2:n<=22
  ·have h:nK n=true:=by unfold nK;simp[h1,h2]
   rw[h];clear h;go_enter Tryz.func226,Tryz.ntmps226;go_wp2;go_ret;exact⟨rfl,rfl⟩
  ·have h:nK n=false:=by unfold nK;simp[h2]
   rw[h];clear h;go_enter Tryz.func226,Tryz.ntmps226;go_wp2;go_ret;exact⟨rfl,rfl⟩
 ·have h:nK n=false:=by unfold nK;simp[h1]
  rw[h];clear h;go_enter Tryz.func226,Tryz.ntmps226;go_wp2;go_ret;exact⟨rfl,rfl⟩
theorem jU {n:Int}(h1:2<=n)(h2:n<=22) :nK n=true:=by unfold nK;simp[h1,h2]
theorem kK {n:Int}(h:n<2\/22<n) :nK n=false:=by unfold nK;simp;omega
theorem Dg (n:Int)(k:Nat)(w:World)(h1:1<=k)(h2:k<=21)(hn:n= (k:Int) +1) :
 Calls Tryz.prog 227 #[.int .i64 n] w fun e w'=>e= .returned (.int .i64 (mx k))/\w=w':=by
 have hv:=jU (n:=n) (by omega) (by omega);have HN:=aa hn;clear hn;have HV:=HN.out;have h3:2<=n:=by omega
 have h4:n<=22:=by omega
 clear HV;go_enter Tryz.func227,Tryz.ntmps227;go_wp2_with (go_at_call 226;refine(dR _ _).mono ?_;rintro e w' ⟨rfl,rfl⟩);go_loop [3,9] (fun t i=>∃j:Nat,j<=k/\i= .int .i64 j/\t= .int .i64 (mx j)) (fun _ i=>k- (intOf i).toNat)
 case atStart=>exact⟨0,Nat.zero_le _,rfl,rfl⟩
 case round=>
  obtain⟨j,hj,rfl,rfl⟩:=hrel;have b0:=ix j;by_cases hlt:j<k
  ·have b1:=jB (k:=j) (by omega);have HS:=aa (jC j);have hlt': (j:Int) <n- 1:=by rw[HN.out];omega
   go_wp2
   go_round
   case rel=>exact⟨j+1,by omega,by go_num,by rw[HS.out]⟩
   case measure=>simp[intOf];omega
  ·have hlt':¬(j:Int) <n- 1:=by rw[HN.out];omega
   obtain rfl:j=k:=by omega
   go_wp2;go_ret;exact⟨rfl,rfl⟩
theorem pJ (m:Nat) : (madeCells (Value.int .u8 0).cells (m*1)).toList= (List.replicate m (0:Int)).map (.int .u8) :=by
 apply List.ext_getElem?;intro i;by_cases h:i<m<;>simp[madeCells,Value.cells,h,Nat.mod_one]
theorem Tryz.kS: (Tryz.prog.info? 5).map (fun i=> (i.zero,i.size,i.bytes)) =some (some (.int .u8 0),1,1) :=by kernel_rfl
theorem ud (n wd:Int)(w:World)(h:wd<2\/22<wd) :
 Calls Tryz.prog 202 #[.int .i64 n,.int .i64 wd] w fun e w'=>e= .returned (.tuple #[.slice none 0 0,.int .i64 2])/\w=w':=by
 have hv:=kK h;clear h;go_enter Tryz.func202,Tryz.ntmps202;go_wp2_with (go_at_call 226;refine(dR _ _).mono ?_;rintro e w' ⟨rfl,rfl⟩);go_ret2;exact⟨rfl,rfl⟩
theorem sH (n wd:Int)(k:Nat)(w:World)(h1:1<=k)(h2:k<=21)(hn:wd= (k:Int) +1)(h0:0<=n)(hm:n<=mx k) :
 Calls Tryz.prog 202 #[.int .i64 n,.int .i64 wd] w fun e w'=>e= .returned (.tuple #[.slice (some ⟨w.heap.size,0,none⟩) (k+1) (k+1),.int .i64 0])/\
  w'.ownsRow w.heap.size 5 1 (.slice (some ⟨w.heap.size,0,none⟩) (k+1) (k+1)) (k+1) ((cL k n).map (.int .u8))/\Below w.heap.size w w':=by
 have hv:=jU (n:=wd) (by omega) (by omega);have h3:2<=wd:=by omega
 have h4:wd<=22:=by omega
 have hm':¬mx k<n:=by omega
 have h5:=Cl h2;have HN:=aa hn;clear hn;have HM:=aa hm;clear hm;obtain⟨i0,hi,hz0,hz1,hz2⟩:=info_parts Tryz.kS;have HZ:=aa (And.intro hi (And.intro hz0 (And.intro hz1 hz2)));clear hi hz0 hz1 hz2;go_enter Tryz.func202,Tryz.ntmps202;go_wp2_with (first| (go_at_call 226;refine(dR _ _).mono ?_;rintro e w' ⟨rfl,rfl⟩) | (go_at_call 227;refine(Dg _ k _ h1 h2 HN.out).mono ?_;rintro e w' ⟨rfl,rfl⟩) | (at_make;refine wpList_make_full _ rfl _ _ 25 rfl w.heap.size 5 i0 (.int .u8 0) 1 Tryz.underlying25 HZ.out.1 HZ.out.2.1 HZ.out.2.2.1 .i64 .i64 _ _ (k+1) rfl rfl (by rw[HN.out];rfl) (by rw[HN.out];rfl) (by rw[HZ.out.2.2.2];omega) (by unfold maxLen;omega) aj ?_;intro w1 hown1 hgrow1))
 have hown2:w1.ownsRow w.heap.size 5 1 (.slice (some ⟨w.heap.size,0,none⟩) (k+1) (k+1)) (k+1) ((part k 0 n).map (.int .u8)) :=by
  rw[vE];have e: (madeCells (Value.int .u8 0).cells ((k+1) *1)).toList= (List.replicate (k+1) (0:Int)).map (.int .u8) :=pJ _;rw[<- e];exact hown1
 have hb:Below w.heap.size w w1:=au.grown hgrow1 aj (fun _ h=>by cases h);clear hown1 hgrow1;go_loopw [0,26] (fun t i wr=>∃j:Nat,j<=k/\i= .int .i64 j/\t= .int .i64 (sh n j)/\wr.ownsRow w.heap.size 5 1 (.slice (some ⟨w.heap.size,0,none⟩) (k+1) (k+1)) (k+1) ((part k j n).map (.int .u8))/\Below w.heap.size w wr) (fun _ i _=>k- (intOf i).toNat)
 case atStart=>exact⟨0,Nat.zero_le _,rfl,by rw[qe],hown2,hb⟩
 case round=>
  obtain⟨j,hj,rfl,rfl,hown,hbel⟩:=hrel;have b0:=oT h0 j;have b1:=Cq h0 j;have b2:sh n j<=9223372036854775807:=by have:=HM.out;omega
  by_cases hlt:j<k
  ·have hlt': (j:Int) <wd- 1:=by rw[HN.out];omega
   have hix:0<=wd- 2- (j:Int) :=by rw[HN.out];omega
   have hix2:wd- 2- (j:Int) < ((k+1:Nat) :Int) :=by rw[HN.out];omega
   have HI:Hid ((wd- 2).toNat- j=k- 1- j) :=by show _=_;rw[HN.out];omega
   have hc:wr.cell? ⟨w.heap.size,(wd- 2).toNat- j,none⟩=some (.int .u8 0) :=by
    rw[HI.out,hown.cellAt _ (by omega),List.getElem?_map,Bc n hlt];rfl
   have hf:=hown.frozenAt ((wd- 2).toNat- j);have R:= (hown.stored ((wd- 2).toNat- j) (.int .u8 (48+sh n j % 8))).1;rw[HI.out,<- List.map_set,vD n hlt]at R;have HR:=aa R;have HS:=aa (qd n j);clear R hown hown2;go_wp2;go_roundw
   case rel=>exact⟨j+1,by omega,by go_num,by rw[HS.out],by rw[HI.out];exact HR.out,hbel.setCell aj _⟩
   case measure=>simp[intOf];omega
  ·have hlt':¬(j:Int) <wd- 1:=by rw[HN.out];omega
   obtain rfl:j=k:=by omega
   clear hown2;go_wp2;go_ret2;exact⟨rfl,by rw[<- vC];exact hown,hbel⟩
theorem Ew (n:Int)(w:World)(h:n<2\/22<n) :
 Calls Tryz.prog 210 #[.int .i64 n] w fun e w'=>e= .returned (.int .i64 0)/\w=w':=by
 by_cases h1:n<2
 ·clear h;go_enter Tryz.func210,Tryz.ntmps210;go_wp2;go_ret;exact⟨rfl,rfl⟩
 ·have h2:22<n:=by omega
  clear h;go_enter Tryz.func210,Tryz.ntmps210;go_wp2;go_ret;exact⟨rfl,rfl⟩
theorem Bo (n:Int)(k:Nat)(w:World)(h1:1<=k)(h2:k<=21)(hn:n= (k:Int) +1) :
 Calls Tryz.prog 210 #[.int .i64 n] w fun e w'=>e= .returned (.int .i64 (mx k))/\w=w':=by
 have HN:=aa hn;have h3:¬n<2:=by omega
 have h4:¬22<n:=by omega
 clear hn;go_enter Tryz.func210,Tryz.ntmps210;go_wp2;go_loop [3,4] (fun t i=>∃j:Nat,j<=k/\i= .int .i64 ((j:Int) +1)/\t= .int .i64 (mx j)) (fun _ i=>k+1- (intOf i).toNat)
 case atStart=>exact⟨0,Nat.zero_le _,rfl,rfl⟩
 case round=>
  obtain⟨j,hj,rfl,rfl⟩:=hrel;have b0:=ix j;by_cases hlt:j<k
  ·have b1:=jB (k:=j) (by omega);have HS:Hid (mx (j+1) =8*mx j+7) :=by show _=_;rw[jC];omega
   have hlt': (j:Int) +1<n:=by rw[HN.out];omega
   go_wp2
   go_round
   case rel=>exact⟨j+1,by omega,by go_num,by rw[HS.out]⟩
   case measure=>simp[intOf];omega
  ·have hlt':¬(j:Int) +1<n:=by rw[HN.out];omega
   obtain rfl:j=k:=by omega
   go_wp2;go_ret;exact⟨rfl,rfl⟩
theorem oo (d:Int)(l:List Int) :strOfNums [d] ++strOfNums l=strOfNums (d::l) :=by
 apply ByteArray.ext;rw[ByteArray.data_append];simp[strOfNums]
theorem jN (n wd:Int)(k:Nat)(w:World)(h1:1<=k)(h2:k<=21)(hn:wd= (k:Int) +1)(h0:0<=n)(hm:n<=mx k) :
 Calls Tryz.prog 179 #[.int .i64 n,.int .i64 wd] w (fW (cL k n) (k+1) 0 w) :=by
 have h3:¬wd<2:=by omega
 have h4:¬22<wd:=by omega
 have hm':¬mx k<n:=by omega
 have h5:=Cl h2;have HN:=aa hn;clear hn;have HM:=aa hm;clear hm;go_enter Tryz.func179,Tryz.ntmps179;go_wp2_with (go_at_call 210;refine(Bo _ k _ h1 h2 HN.out).mono ?_;rintro e w' ⟨rfl,rfl⟩);go_loopw [0,6,7] (fun t s i wr=>∃j:Nat,j<=k/\i= .int .i64 ((j:Int) +1)/\t= .int .i64 (sh n j)/\s= .string (strOfNums (nZ j n++ [0]))/\Below w.heap.size w wr) (fun _ _ i _=>k+1- (intOf i).toNat)
 case atStart=>exact⟨0,Nat.zero_le _,rfl,by rw[qe],rfl,au⟩
 case round=>
  obtain⟨j,hj,rfl,rfl,rfl,hbel⟩:=hrel;have b0:=oT h0 j;have b1:=Cq h0 j;have b2:sh n j<=9223372036854775807:=by have:=HM.out;omega
  by_cases hlt:j<k
  ·have hlt': (j:Int) +1<wd:=by rw[HN.out];omega
   obtain⟨s,HS⟩:=named (strOfNums (nZ j n++ [0]));rw[<- HS.out];have hs:s.size<=100:=by rw[HS.out,strOfNums_size];simp[dL];omega
   have HP:=aa (qd n j)
   have hc:=dM (P:=Tryz.prog) (w:=wr.alloc (.cells #[.int .u8 (48+sh n j % 8)] 5)) Tryz.underlying25 Tryz.underlying5 Tryz.underlying9 (b:=wr.heap.size) (off:=0) (zs:= [48+sh n j % 8])
    ⟨fun i hi=>by obtain rfl:i=0:=by simpa using hi
                  rw[World.cell?_alloc_at _ _ _ _ rfl];rfl,fun z hz=>by obtain rfl:z=_:=by simpa using hz
                                                                        omega⟩ 1 1 rfl
   obtain⟨u,HU⟩:=named (strOfNums [48+sh n j % 8]);rw[<- HU.out]at hc;have hu:u.size=1:=by rw[HU.out];rfl
   have HA:Hid (u++s=strOfNums (nZ (j+1) n++ [0])) :=by show _=_;rw[HU.out,HS.out,oo];rfl
   go_wp2;go_roundw
   case rel=>exact⟨j+1,by omega,by go_num,by rw[HP.out],by rw[HA.out],hbel.alloc hbel.size _⟩
   case measure=>simp[intOf];omega
  ·have hlt':¬(j:Int) +1<wd:=by rw[HN.out];omega
   obtain rfl:j=k:=by omega
   obtain⟨c,w2,hrun,hrow,hb2,hsz⟩:=fj (P:=Tryz.prog) wr Tryz.underlying9 Tryz.underlying25 Tryz.underlying5 (strOfNums (nZ j n++ [0]));have hs: (strOfNums (nZ j n++ [0])).size=j+1:=by rw[strOfNums_size];simp[dL]
   rw[hs]at hrun
   have HR:Hid (aO w2 wr.heap.size 0 (cL j n)) :=by
    show aO _ _ _ _;rw[show ad (strOfNums (nZ j n++ [0])) =cL j n from ak (mj j n)]at hrow;exact hrow
   clear hs hrow;go_wp2;go_ret2;exact⟨_,_,rfl,HR.out,hsz,hbel.trans (hb2.mono hbel.size)⟩
end Oct
namespace Ust
open Go.RowKit
open Oct Cst gR
theorem nt (T:Int)(w:World) :Calls Tryz.prog 128 #[.int .u8 T] w fun e w'=>e= .returned (.bool (decide (known T)))/\w=w':=by
 by_cases h:known T
 ·rw[decide_eq_true h];rcases h with rfl|rfl|rfl|rfl|rfl
  all_goals
   go_enter Tryz.func128,Tryz.ntmps128;go_wp2;go_ret;exact⟨rfl,rfl⟩
 ·rw[decide_eq_false h];obtain⟨h1,h2,h3,h4,h5⟩:=oD h;clear h;go_enter Tryz.func128,Tryz.ntmps128;go_wp2;go_ret;exact⟨rfl,rfl⟩
theorem kB (s:ByteArray)(k:Nat)(w:World)(h1:1<=k)(h2:k<=256)(hs:s.size<=maxLen) :
 Calls Tryz.prog 178 #[.string s,.int .i64 k] w fun e w'=>∃b n c,e= .returned (.tuple #[.slice b n c,.int .i64 (eT (ad s) k)])/\Below w.heap.size w w':=by
 have hl:=ah s;by_cases hz: (0:Int)∈ad s
 ·have e:eT (ad s) k=6:=by unfold eT;rw[if_neg (by omega),if_pos hz]
  rw[e];exact(Cst.yD s k w (by omega) (by omega) hs hz).mono fun e w' ⟨h1,h2⟩=>⟨_,_,_,h1,h2▸au⟩
 ·by_cases hk: (k:Int) <s.size
  ·have e:eT (ad s) k=7:=by unfold eT;rw[if_neg (by omega),if_neg hz,if_pos (by rw[hl];exact hk)]
   rw[e];exact(Cst.vM s k w (by omega) (by omega) hs hz hk).mono fun e w' ⟨h1,h2⟩=>⟨_,_,_,h1,h2▸au⟩
  ·have e:eT (ad s) k=0:=by unfold eT;rw[if_neg (by omega),if_neg hz,if_neg (by rw[hl];omega)]
   rw[e];exact(Cst.jN s k w (by omega) (by omega) hz (by omega)).mono fun e w' ⟨b,c,h1,_,_,h2⟩=>⟨_,_,_,h1,h2⟩
theorem gq (s:ByteArray)(k:Nat)(w:World)(h:eT (ad s) k=0) :
 Calls Tryz.prog 121 #[.string s,.int .i64 k] w fun e w'=>e= .returned (.string (strOfNums (bF (ad s) k)))/\Below w.heap.size w w':=by
 obtain⟨h1,h2,h3,h4⟩:=fv.1 h;have hl:=ah s;have hlen:=bg (ad s) k (by omega);obtain⟨S,hS⟩:=named (strOfNums (bF (ad s) k));rw[<- hS.out];go_enter Tryz.func121,Tryz.ntmps121;go_wp2_with fail;refine(Cst.jN s k w h1 h2 h3 (by omega)).mono ?_;rintro e w1 ⟨b,c,rfl,hr,hlt,(B:Hid _)⟩;have hc:=dM (P:=Tryz.prog) (w:=w1) Tryz.underlying25 Tryz.underlying5 Tryz.underlying9 hr k c hlen;rw[<- hS.out]at hc;clear hr hlt;go_wp2;go_ret;exact⟨rfl,B.out⟩
theorem jO (n wd:Int)(k:Nat)(w:World)(h1:1<=k)(h2:k<=21)(hn:wd= (k:Int) +1)(h0:0<=n)(hm:n<=mx k) :
 Calls Tryz.prog 122 #[.int .i64 n,.int .i64 wd] w fun e w'=>e= .returned (.string (strOfNums (cL k n)))/\Below w.heap.size w w':=by
 have hlen:=aU k n;obtain⟨m,hm'⟩:=named (k+1);have RF:=Oct.jN n wd k w h1 h2 hn h0 hm;rw[<- hm'.out]at RF hlen;obtain⟨S,hS⟩:=named (strOfNums (cL k n));rw[<- hS.out];have HL:=aa hlen;have RF':=aa RF;clear h1 h2 hn h0 hm RF hlen hm';go_enter Tryz.func122,Tryz.ntmps122;go_wp2_with fail;refine RF'.out.mono ?_;rintro e w1 ⟨b,c,rfl,hr,hlt,(B:Hid _)⟩;have hc:=dM (P:=Tryz.prog) (w:=w1) Tryz.underlying25 Tryz.underlying5 Tryz.underlying9 hr m c HL.out;rw[<- hS.out]at hc;clear hr hlt;go_wp2;go_ret;exact⟨rfl,B.out⟩
theorem cv (T:Int)(nm pf lk:ByteArray)(md sz:Int)(w:World)(hn:nm.size<=maxLen)(hp:pf.size<=maxLen)(hk:lk.size<=maxLen) :
 Calls Tryz.prog 120 #[.agg (bu T nm pf lk md sz).toArray] w fun e w'=>e= .returned (.int .i64 (iN T nm pf lk md sz))/\Below w.heap.size w w':=by
 obtain⟨kb,hkb⟩:=named (decide (known T));obtain⟨e1,he1⟩:=named (eT (ad nm) (100:Nat));obtain⟨e2,he2⟩:=named (eT (ad lk) (100:Nat));obtain⟨e3,he3⟩:=named (eT (ad pf) (155:Nat))
 have hck:iN T nm pf lk md sz=if kb=false then 8 else if e1≠0 then e1 else if e2≠0 then e2 else if e3≠0 then e3 else if md<0\/4095<md then 16 else if sz<0\/8589934591<sz then 3 else 0:=by
  rw[hkb.out,he1.out,he2.out,he3.out];unfold iN;simp only[decide_eq_false_iff_not];rfl
 obtain⟨R,hR⟩:=named (iN T nm pf lk md sz);have HR:Hid (R=if kb=false then 8 else if e1≠0 then e1 else if e2≠0 then e2 else if e3≠0 then e3 else if md<0\/4095<md then 16 else if sz<0\/8589934591<sz then 3 else 0) :=by show _=_;rw[hR.out];exact hck
 rw[<- hR.out];clear hck hR;have HN:=aa hn;have HP:=aa hp;have HK:=aa hk;clear hn hp hk;go_enter Tryz.func120,Tryz.ntmps120;go_wp2_with (first| (refine af rfl 145 _ rfl (bu T nm pf lk md sz) rfl ?_;intro w1 h1 b1;have H1:=aa h1;have B1:=aa b1;have c0:=h1.get 0 rfl;clear h1 b1));refine(nt T w1).mono ?_;rintro e w2 ⟨rfl,rfl⟩;rw[<- hkb.out]
 cases kb with
 |false=>
  go_wp2_with fail;go_ret;exact⟨by have hr:=HR.out;simp at hr;subst hr;rfl,B1.out⟩
 |true=>
  have c1:=H1.out.get 1 rfl;clear c0;go_wp2_with fail;refine(kB nm 100 w1 (by decide) (by decide) HN.out).mono ?_;rintro e w2 ⟨_,_,_,rfl,b2⟩;rw[<- he1.out];have H2:=aa (H1.out.below b2 H1.out.lt);have B2:=aa (B1.out.trans (b2.mono B1.out.size));clear b2 c1;by_cases z1:e1=0
  ·subst z1;have c3:=H2.out.get 3 rfl;go_wp2_with fail;refine(kB lk 100 w2 (by decide) (by decide) HK.out).mono ?_;rintro e w3 ⟨_,_,_,rfl,b3⟩;rw[<- he2.out];have H3:=aa (H2.out.below b3 H2.out.lt);have B3:=aa (B2.out.trans (b3.mono B2.out.size));clear b3 c3;by_cases z2:e2=0
   ·subst z2;have c2:=H3.out.get 2 rfl;go_wp2_with fail;refine(kB pf 155 w3 (by decide) (by decide) HP.out).mono ?_;rintro e w4 ⟨_,_,_,rfl,b4⟩;rw[<- he3.out];have H4:=aa (H3.out.below b4 H3.out.lt);have B4:=aa (B3.out.trans (b4.mono B3.out.size));clear b4 c2;by_cases z3:e3=0
    ·subst z3;have c4:=H4.out.get 4 rfl;have c5:=H4.out.get 5 rfl;by_cases m0:md<0
     ·go_wp2_with fail;go_ret;exact⟨by have hr:=HR.out;simp[m0]at hr;subst hr;rfl,B4.out⟩
     ·by_cases m1:4095<md
      ·go_wp2_with fail;go_ret;exact⟨by have hr:=HR.out;simp[m1]at hr;subst hr;rfl,B4.out⟩
      ·by_cases s0:sz<0
       ·go_wp2_with fail;go_ret;exact⟨by have hr:=HR.out;simp at hr;rw[if_neg (by omega),if_pos (.inl s0)]at hr;subst hr;rfl,B4.out⟩
       ·by_cases s1:8589934591<sz
        ·go_wp2_with fail;go_ret;exact⟨by have hr:=HR.out;simp at hr;rw[if_neg (by omega),if_pos (.inr s1)]at hr;subst hr;rfl,B4.out⟩
        ·go_wp2_with fail;go_ret;exact⟨by have hr:=HR.out;simp at hr;rw[if_neg (by omega),if_neg (by omega)]at hr;subst hr;rfl,B4.out⟩
    ·have n3: (e3 !=0) =true:=by simp[z3]
     go_wp2_with fail;go_ret;exact⟨by have hr:=HR.out;simp[z3]at hr;subst hr;rfl,B4.out⟩
   ·have n2: (e2 !=0) =true:=by simp[z2]
    go_wp2_with fail;go_ret;exact⟨by have hr:=HR.out;simp[z2]at hr;subst hr;rfl,B3.out⟩
  ·have n1: (e1 !=0) =true:=by simp[z1]
   go_wp2_with fail;go_ret;exact⟨by have hr:=HR.out;simp[z1]at hr;subst hr;rfl,B2.out⟩
def fb (zs:List Int)(n:Nat)(w:World)(e:Ending)(w':World) :Prop:=
 ∃b c,e= .returned (.slice (some ⟨b,0,none⟩) n c)/\aO w' b 0 zs/\b<w'.heap.size/\n<=c/\c<=maxLen/\Below w.heap.size w w'
theorem ia (s:ByteArray)(wd:Int)(k:Nat)(w:World)(hk:wd= (k:Int))(h:eT (ad s) k=0) :
 Calls Tryz.prog 204 #[.string s,.int .i64 wd] w (fb (bF (ad s) k) k w) :=by
 have HF:=aa (Cst.pC s k w h);rw[<- hk]at HF;obtain⟨zs,HZ⟩:=named (bF (ad s) k);rw[<- HZ.out]at HF⊢;clear h hk;go_enter Tryz.func204,Tryz.ntmps204;go_wp2_with fail;refine HF.out.mono ?_;rintro e w1 ⟨b,c,rfl,(R:Hid _),(L:Hid _),(B:Hid _),(C1:Hid _),(C2:Hid _)⟩;go_wp2;go_ret;exact⟨b,c,rfl,R.out,L.out,C1.out,C2.out,B.out⟩
theorem pD (n wd:Int)(k:Nat)(w:World)(h1:1<=k)(h2:k<=21)(hn:wd= (k:Int) +1)(h0:0<=n)(hm:n<=mx k) :
 Calls Tryz.prog 206 #[.int .i64 n,.int .i64 wd] w (fb (cL k n) (k+1) w) :=by
 have hF:Calls Tryz.prog 202 #[.int .i64 n,.int .i64 wd] w (wG (cL k n) (k+1) 0 w) :=
  (Oct.sH n wd k w h1 h2 hn h0 hm).mono fun e w' ⟨h,ho,hb⟩=>⟨_,_,h,.bG ho (mj k n),(ig ho).2,hb,aj,by unfold maxLen;omega⟩
 have HF:=aa hF;clear hF;obtain⟨zs,HZ⟩:=named (cL k n);obtain⟨m,HM⟩:=named (k+1);rw[<- HZ.out,<- HM.out]at HF⊢;clear h1 h2 hn h0 hm HM;go_enter Tryz.func206,Tryz.ntmps206;go_wp2_with fail;refine HF.out.mono ?_;rintro e w1 ⟨b,c,rfl,(R:Hid _),(L:Hid _),(B:Hid _),(C1:Hid _),(C2:Hid _)⟩;go_wp2;go_ret;exact⟨b,c,rfl,R.out,L.out,C1.out,C2.out,B.out⟩
theorem fb.pre {zs:List Int}{n:Nat}{w w1 w':World}{e:Ending}(h:fb zs n w1 e w')(hb:Below w.heap.size w w1) :fb zs n w e w':=by
 obtain⟨b,c,h1,h2,h3,h4,h5,h6⟩:=h;exact⟨b,c,h1,h2,h3,h4,h5,ar hb h6⟩
section
variable (T:Int) (nm pf lk:ByteArray) (md sz:Int) (w:World)
theorem Ak (wd:Int)(k:Nat)(hk:wd= (k:Int))(h:eT (ad nm) k=0) :
 Calls Tryz.prog 154 #[.agg (bu T nm pf lk md sz).toArray,.int .i64 wd] w (fb (bF (ad nm) k) k w) :=by
 have HF:Hid (∀w,Calls Tryz.prog 204 #[.string nm,.int .i64 wd] w (fb (bF (ad nm) k) k w)) :=fun w=>ia nm wd k w hk h;obtain⟨zs,HZ⟩:=named (bF (ad nm) k);rw[<- HZ.out]at HF⊢;clear hk h;go_enter Tryz.func154,Tryz.ntmps154;go_wp2_with (first| (refine af rfl 130 _ rfl (bu T nm pf lk md sz) rfl ?_;intro w1 h1 b1;have H1:=aa h1;have B1:=aa b1;have c0:=h1.get 1 rfl;clear h1 b1));refine(HF.out _).mono ?_;rintro e w2 ⟨b,c,rfl,h1,h2,h3,h4,h5⟩;have F:=aa (And.intro h1 (And.intro h2 (And.intro h3 (And.intro h4 (ar B1.out h5)))));clear h1 h2 h3 h4 h5;go_wp2;go_ret;exact⟨b,c,rfl,F.out⟩
theorem Ah (wd:Int)(k:Nat)(hk:wd= (k:Int))(h:eT (ad lk) k=0) :
 Calls Tryz.prog 164 #[.agg (bu T nm pf lk md sz).toArray,.int .i64 wd] w (fb (bF (ad lk) k) k w) :=by
 have HF:Hid (∀w,Calls Tryz.prog 204 #[.string lk,.int .i64 wd] w (fb (bF (ad lk) k) k w)) :=fun w=>ia lk wd k w hk h;obtain⟨zs,HZ⟩:=named (bF (ad lk) k);rw[<- HZ.out]at HF⊢;clear hk h;go_enter Tryz.func164,Tryz.ntmps164;go_wp2_with (first| (refine af rfl 130 _ rfl (bu T nm pf lk md sz) rfl ?_;intro w1 h1 b1;have H1:=aa h1;have B1:=aa b1;have c0:=h1.get 3 rfl;clear h1 b1));refine(HF.out _).mono ?_;rintro e w2 ⟨b,c,rfl,h1,h2,h3,h4,h5⟩;have F:=aa (And.intro h1 (And.intro h2 (And.intro h3 (And.intro h4 (ar B1.out h5)))));clear h1 h2 h3 h4 h5;go_wp2;go_ret;exact⟨b,c,rfl,F.out⟩
theorem vr (wd:Int)(k:Nat)(hk:wd= (k:Int))(h:eT (ad pf) k=0) :
 Calls Tryz.prog 168 #[.agg (bu T nm pf lk md sz).toArray,.int .i64 wd] w (fb (bF (ad pf) k) k w) :=by
 have HF:Hid (∀w,Calls Tryz.prog 204 #[.string pf,.int .i64 wd] w (fb (bF (ad pf) k) k w)) :=fun w=>ia pf wd k w hk h;obtain⟨zs,HZ⟩:=named (bF (ad pf) k);rw[<- HZ.out]at HF⊢;clear hk h;go_enter Tryz.func168,Tryz.ntmps168;go_wp2_with (first| (refine af rfl 130 _ rfl (bu T nm pf lk md sz) rfl ?_;intro w1 h1 b1;have H1:=aa h1;have B1:=aa b1;have c0:=h1.get 2 rfl;clear h1 b1));refine(HF.out _).mono ?_;rintro e w2 ⟨b,c,rfl,h1,h2,h3,h4,h5⟩;have F:=aa (And.intro h1 (And.intro h2 (And.intro h3 (And.intro h4 (ar B1.out h5)))));clear h1 h2 h3 h4 h5;go_wp2;go_ret;exact⟨b,c,rfl,F.out⟩
theorem xt:
 Calls Tryz.prog 166 #[.agg (bu T nm pf lk md sz).toArray,.int .i64 6] w (fb [117,115,116,97,114,0] 6 w) :=by
 have HF:Hid (∀w,Calls Tryz.prog 204 #[.string {data:= #[117,115,116,97,114]},.int .i64 6] w (fb [117,115,116,97,114,0] 6 w)) :=fun w=>ia {data:= #[117,115,116,97,114]} 6 6 w rfl (by decide);obtain⟨zs,HZ⟩:=named ([117,115,116,97,114,0] :List Int);rw[<- HZ.out]at HF⊢;go_enter Tryz.func166,Tryz.ntmps166;go_wp2_with (first| (refine af rfl 130 _ rfl (bu T nm pf lk md sz) rfl ?_;rintro w1 h1 (B1:Hid _);clear h1));refine(HF.out _).mono ?_;rintro e w2 ⟨b,c,rfl,h1,h2,h3,h4,h5⟩;have F:=aa (And.intro h1 (And.intro h2 (And.intro h3 (And.intro h4 (ar B1.out h5)))));clear h1 h2 h3 h4 h5;go_wp2;go_ret;exact⟨b,c,rfl,F.out⟩
theorem sG:
 Calls Tryz.prog 167 #[.agg (bu T nm pf lk md sz).toArray,.int .i64 2] w (fb [48,48] 2 w) :=by
 have HF:Hid (∀w,Calls Tryz.prog 204 #[.string {data:= #[48,48]},.int .i64 2] w (fb [48,48] 2 w)) :=fun w=>ia {data:= #[48,48]} 2 2 w rfl (by decide);obtain⟨zs,HZ⟩:=named ([48,48] :List Int);rw[<- HZ.out]at HF⊢;go_enter Tryz.func167,Tryz.ntmps167;go_wp2_with (first| (refine af rfl 130 _ rfl (bu T nm pf lk md sz) rfl ?_;rintro w1 h1 (B1:Hid _);clear h1));refine(HF.out _).mono ?_;rintro e w2 ⟨b,c,rfl,h1,h2,h3,h4,h5⟩;have F:=aa (And.intro h1 (And.intro h2 (And.intro h3 (And.intro h4 (ar B1.out h5)))));clear h1 h2 h3 h4 h5;go_wp2;go_ret;exact⟨b,c,rfl,F.out⟩
theorem Aj (h0:0<=md)(hm:md<=4095) :
 Calls Tryz.prog 156 #[.agg (bu T nm pf lk md sz).toArray,.int .i64 8] w (fb (cL 7 md) 8 w) :=by
 have HF:Hid (∀w,Calls Tryz.prog 206 #[.int .i64 md,.int .i64 8] w (fb (cL 7 md) 8 w)) :=fun w=>pD md 8 7 w (by decide) (by decide) rfl h0 (by rw[Dk];omega);obtain⟨zs,HZ⟩:=named (cL 7 md);rw[<- HZ.out]at HF⊢;clear h0 hm;go_enter Tryz.func156,Tryz.ntmps156;go_wp2_with (first| (refine af rfl 130 _ rfl (bu T nm pf lk md sz) rfl ?_;intro w1 h1 b1;have H1:=aa h1;have B1:=aa b1;have c0:=h1.get 4 rfl;clear h1 b1));refine(HF.out _).mono ?_;rintro e w2 ⟨b,c,rfl,h1,h2,h3,h4,h5⟩;have F:=aa (And.intro h1 (And.intro h2 (And.intro h3 (And.intro h4 (ar B1.out h5)))));clear h1 h2 h3 h4 h5;go_wp2;go_ret;exact⟨b,c,rfl,F.out⟩
theorem Al (h0:0<=sz)(hm:sz<=8589934591) :
 Calls Tryz.prog 160 #[.agg (bu T nm pf lk md sz).toArray,.int .i64 12] w (fb (cL 11 sz) 12 w) :=by
 have HF:Hid (∀w,Calls Tryz.prog 206 #[.int .i64 sz,.int .i64 12] w (fb (cL 11 sz) 12 w)) :=fun w=>pD sz 12 11 w (by decide) (by decide) rfl h0 (by rw[sO];omega);obtain⟨zs,HZ⟩:=named (cL 11 sz);rw[<- HZ.out]at HF⊢;clear h0 hm;go_enter Tryz.func160,Tryz.ntmps160;go_wp2_with (first| (refine af rfl 130 _ rfl (bu T nm pf lk md sz) rfl ?_;intro w1 h1 b1;have H1:=aa h1;have B1:=aa b1;have c0:=h1.get 5 rfl;clear h1 b1));refine(HF.out _).mono ?_;rintro e w2 ⟨b,c,rfl,h1,h2,h3,h4,h5⟩;have F:=aa (And.intro h1 (And.intro h2 (And.intro h3 (And.intro h4 (ar B1.out h5)))));clear h1 h2 h3 h4 h5;go_wp2;go_ret;exact⟨b,c,rfl,F.out⟩
theorem jt (wd:Int)(k:Nat)(h1:1<=k)(h2:k<=21)(hn:wd= (k:Int) +1) :
 Calls Tryz.prog 158 #[.agg (bu T nm pf lk md sz).toArray,.int .i64 wd] w (fb (cL k 0) (k+1) w) :=by
 have HF:Hid (∀w,Calls Tryz.prog 206 #[.int .i64 0,.int .i64 wd] w (fb (cL k 0) (k+1) w)) :=fun w=>pD 0 wd k w h1 h2 hn (by decide) (ix k);obtain⟨zs,HZ⟩:=named (cL k 0);obtain⟨m,HM⟩:=named (k+1);rw[<- HZ.out,<- HM.out]at HF⊢;clear h1 h2 hn HM;go_enter Tryz.func158,Tryz.ntmps158;go_wp2_with (first| (refine af rfl 130 _ rfl (bu T nm pf lk md sz) rfl ?_;rintro w1 h1 (B1:Hid _);clear h1));refine(HF.out _).mono ?_;rintro e w2 ⟨b,c,rfl,h1,h2,h3,h4,h5⟩;have F:=aa (And.intro h1 (And.intro h2 (And.intro h3 (And.intro h4 (ar B1.out h5)))));clear h1 h2 h3 h4 h5;go_wp2;go_ret;exact⟨b,c,rfl,F.out⟩
theorem Am (hT:0<=T/\T<=255)(wd:Int) :
 Calls Tryz.prog 162 #[.agg (bu T nm pf lk md sz).toArray,.int .i64 wd] w (fb [T] 1 w) :=by
 have HT:=aa hT;have HI:=aa Cst.Tryz.kS;go_enter Tryz.func162,Tryz.ntmps162;go_wp2_with (first| (refine af rfl 130 _ rfl (bu T nm pf lk md sz) rfl ?_;intro w1 h1 b1;have H1:=aa h1;have B1:=aa b1;have c0:=h1.get 0 rfl;clear h1 b1) | (refine cK rfl 25 5 _ rfl Tryz.underlying25 HI.out T rfl HT.out ?_;intro w2 h2 b2;have H2:=aa h2;have B2:=aa b2;clear h2 b2));go_ret;exact⟨_,_,rfl,H2.out.row,H2.out.lt,aj,by unfold maxLen;omega,ar B1.out B2.out⟩
end
end Ust
end Go.Proofs.YtcjagakckffkiaaGreatDoor
