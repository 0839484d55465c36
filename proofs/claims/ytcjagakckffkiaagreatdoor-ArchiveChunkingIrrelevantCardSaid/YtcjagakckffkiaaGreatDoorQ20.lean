import Derived.Test.YtcjagakckffkiaaGreatDoorRows
import Derived.Test.YtcjagakckffkiaaGreatDoorQ0
import Derived.Test.YtcjagakckffkiaaGreatDoorQ4
import Derived.Test.YtcjagakckffkiaaGreatDoorQ1
import Derived.Test.YtcjagakckffkiaaGreatDoorQ19
import Derived.Test.YtcjagakckffkiaaGreatDoorQ8
import Derived.Laws.IdiomCopy
import Derived.Laws.IdiomStrings
import Derived.Deep.DeepMust
import Derived.Laws.CopyOwn
set_option maxHeartbeats 16000000
namespace Go.Proofs.YtcjagakckffkiaaGreatDoor.Oct
open Go.RowKit
def pR (n:Int) :Bool:=decide (2<=n/\n<=22)
theorem JG {k:IntKind}{a b:Int}(h:a=b) :Ending.returned (.int k a) = .returned (.int k b) :=by rw[h]
theorem cC (n:Int)(w:World) :
 Calls Tryz.prog 226 #[.int .i64 n] w fun e w'=>e= .returned (.bool (pR n))/\w=w':=by
 by_cases h1:2<=n
 ·by_cases h2:n<=22
  ·have h:pR n=true:=by unfold pR;simp[h1,h2]
   rw[h];clear h;go_enter Tryz.func226,Tryz.ntmps226;go_wp2;go_ret;exact⟨rfl,rfl⟩
  ·have h:pR n=false:=by unfold pR;simp[h2]
   rw[h];clear h;go_enter Tryz.func226,Tryz.ntmps226;go_wp2;go_ret;exact⟨rfl,rfl⟩
 ·have h:pR n=false:=by unfold pR;simp[h1]
  rw[h];clear h;go_enter Tryz.func226,Tryz.ntmps226;go_wp2;go_ret;exact⟨rfl,rfl⟩
theorem fT {n:Int}(h1:2<=n)(h2:n<=22) :pR n=true:=by unfold pR;simp[h1,h2]
theorem ja {n:Int}(h:n<2\/22<n) :pR n=false:=by unfold pR;simp;omega
theorem Oj (n:Int)(k:Nat)(w:World)(h1:1<=k)(h2:k<=21)(hn:n= (k:Int) +1) :
 Calls Tryz.prog 227 #[.int .i64 n] w fun e w'=>e= .returned (.int .i64 (mx k))/\w=w':=by
 have hv:=fT (n:=n) (by omega) (by omega);have HN:=ad hn;clear hn;have HV:=HN.out;have h3:2<=n:=by omega
 have h4:n<=22:=by omega
 clear HV;go_enter Tryz.func227,Tryz.ntmps227;go_wp2_with (go_at_call 226;refine(cC _ _).mono ?_;rintro e w' ⟨rfl,rfl⟩);go_loop [3,9] (fun t i=>∃j:Nat,j<=k/\i= .int .i64 j/\t= .int .i64 (mx j)) (fun _ i=>k- (intOf i).toNat)
 case atStart=>exact⟨0,Nat.zero_le _,rfl,rfl⟩
 case round=>
  obtain⟨j,hj,rfl,rfl⟩:=hrel;have b0:=oX j;by_cases hlt:j<k
  ·have b1:=qO (k:=j) (by omega);have HS:=ad (qn j);have hlt': (j:Int) <n- 1:=by rw[HN.out];omega
   go_wp2
   go_round
   case rel=>exact⟨j+1,by omega,by go_num,by rw[HS.out]⟩
   case measure=>simp[intOf];omega
  ·have hlt':¬(j:Int) <n- 1:=by rw[HN.out];omega
   obtain rfl:j=k:=by omega
   go_wp2;go_ret;exact⟨rfl,rfl⟩
end Go.Proofs.YtcjagakckffkiaaGreatDoor.Oct
namespace Go.Proofs.YtcjagakckffkiaaGreatDoor.Oct
open Go.RowKit
theorem vG (m:Nat) : (madeCells (Value.int .u8 0).cells (m*1)).toList= (List.replicate m (0:Int)).map (.int .u8) :=by
 apply List.ext_getElem?;intro i;by_cases h:i<m<;>simp[madeCells,Value.cells,h,Nat.mod_one]
theorem Tryz.xH: (Tryz.prog.info? 5).map (fun i=> (i.zero,i.size,i.bytes)) =some (some (.int .u8 0),1,1) :=by kernel_rfl
theorem Ab (n wd:Int)(w:World)(h:wd<2\/22<wd) :
 Calls Tryz.prog 202 #[.int .i64 n,.int .i64 wd] w fun e w'=>e= .returned (.tuple #[.slice none 0 0,.int .i64 2])/\w=w':=by
 have hv:=ja h;clear h;go_enter Tryz.func202,Tryz.ntmps202;go_wp2_with (go_at_call 226;refine(cC _ _).mono ?_;rintro e w' ⟨rfl,rfl⟩);go_ret2;exact⟨rfl,rfl⟩
theorem yx (n wd:Int)(k:Nat)(w:World)(h1:1<=k)(h2:k<=21)(hn:wd= (k:Int) +1)(h0:0<=n)(hm:n<=mx k) :
 Calls Tryz.prog 202 #[.int .i64 n,.int .i64 wd] w fun e w'=>e= .returned (.tuple #[.slice (some ⟨w.heap.size,0,none⟩) (k+1) (k+1),.int .i64 0])/\
  w'.ownsRow w.heap.size 5 1 (.slice (some ⟨w.heap.size,0,none⟩) (k+1) (k+1)) (k+1) ((eK k n).map (.int .u8))/\Below w.heap.size w w':=by
 have hv:=fT (n:=wd) (by omega) (by omega);have h3:2<=wd:=by omega
 have h4:wd<=22:=by omega
 have hm':¬mx k<n:=by omega
 have h5:=Py h2;have HN:=ad hn;clear hn;have HM:=ad hm;clear hm;obtain⟨i0,hi,hz0,hz1,hz2⟩:=info_parts Tryz.xH;have HZ:=ad (And.intro hi (And.intro hz0 (And.intro hz1 hz2)));clear hi hz0 hz1 hz2;go_enter Tryz.func202,Tryz.ntmps202;go_wp2_with (first| (go_at_call 226;refine(cC _ _).mono ?_;rintro e w' ⟨rfl,rfl⟩) | (go_at_call 227;refine(Oj _ k _ h1 h2 HN.out).mono ?_;rintro e w' ⟨rfl,rfl⟩) | (at_make;refine wpList_make_full _ rfl _ _ 25 rfl w.heap.size 5 i0 (.int .u8 0) 1 Tryz.underlying25 HZ.out.1 HZ.out.2.1 HZ.out.2.2.1 .i64 .i64 _ _ (k+1) rfl rfl (by rw[HN.out];rfl) (by rw[HN.out];rfl) (by rw[HZ.out.2.2.2];omega) (by unfold maxLen;omega) ah ?_;intro w1 hown1 hgrow1))
 have hown2:w1.ownsRow w.heap.size 5 1 (.slice (some ⟨w.heap.size,0,none⟩) (k+1) (k+1)) (k+1) ((part k 0 n).map (.int .u8)) :=by
  rw[BE];have e: (madeCells (Value.int .u8 0).cells ((k+1) *1)).toList= (List.replicate (k+1) (0:Int)).map (.int .u8) :=vG _;rw[<- e];exact hown1
 have hb:Below w.heap.size w w1:=aF.grown hgrow1 ah (fun _ h=>by cases h);clear hown1 hgrow1;go_loopw [0,26] (fun t i wr=>∃j:Nat,j<=k/\i= .int .i64 j/\t= .int .i64 (sh n j)/\wr.ownsRow w.heap.size 5 1 (.slice (some ⟨w.heap.size,0,none⟩) (k+1) (k+1)) (k+1) ((part k j n).map (.int .u8))/\Below w.heap.size w wr) (fun _ i _=>k- (intOf i).toNat)
 case atStart=>exact⟨0,Nat.zero_le _,rfl,by rw[Au],hown2,hb⟩
 case round=>
  obtain⟨j,hj,rfl,rfl,hown,hbel⟩:=hrel;have b0:=Cg h0 j;have b1:=Pm h0 j;have b2:sh n j<=9223372036854775807:=by have:=HM.out;omega
  by_cases hlt:j<k
  ·have hlt': (j:Int) <wd- 1:=by rw[HN.out];omega
   have hix:0<=wd- 2- (j:Int) :=by rw[HN.out];omega
   have hix2:wd- 2- (j:Int) < ((k+1:Nat) :Int) :=by rw[HN.out];omega
   have HI:Hid ((wd- 2).toNat- j=k- 1- j) :=by show _=_;rw[HN.out];omega
   have hc:wr.cell? ⟨w.heap.size,(wd- 2).toNat- j,none⟩=some (.int .u8 0) :=by
    rw[HI.out,hown.cellAt _ (by omega),List.getElem?_map,Kv n hlt];rfl
   have hf:=hown.frozenAt ((wd- 2).toNat- j);have R:= (hown.stored ((wd- 2).toNat- j) (.int .u8 (48+sh n j % 8))).1;rw[HI.out,<- List.map_set,Da n hlt]at R;have HR:=ad R;have HS:=ad (AP n j);clear R hown hown2;go_wp2;go_roundw
   case rel=>exact⟨j+1,by omega,by go_num,by rw[HS.out],by rw[HI.out];exact HR.out,hbel.setCell ah _⟩
   case measure=>simp[intOf];omega
  ·have hlt':¬(j:Int) <wd- 1:=by rw[HN.out];omega
   obtain rfl:j=k:=by omega
   clear hown2;go_wp2;go_ret2;exact⟨rfl,by rw[<- Ci];exact hown,hbel⟩
end Go.Proofs.YtcjagakckffkiaaGreatDoor.Oct
namespace Go.Proofs.YtcjagakckffkiaaGreatDoor.Ust
open Go.RowKit
open Oct Cst jC
def gA (zs:List Int)(n:Nat)(w:World)(e:Ending)(w':World) :Prop:=
 ∃b c,e= .returned (.slice (some ⟨b,0,none⟩) n c)/\aT w' b 0 zs/\b<w'.heap.size/\n<=c/\c<=maxLen/\Below w.heap.size w w'
theorem ku (s:ByteArray)(wd:Int)(k:Nat)(w:World)(hk:wd= (k:Int))(h:jd (af s) k=0) :
 Calls Tryz.prog 204 #[.string s,.int .i64 wd] w (gA (dr (af s) k) k w) :=by
 have HF:=ad (Cst.uR s k w h);rw[<- hk]at HF;obtain⟨zs,HZ⟩:=named (dr (af s) k);rw[<- HZ.out]at HF⊢;clear h hk;go_enter Tryz.func204,Tryz.ntmps204;go_wp2_with fail;refine HF.out.mono ?_;rintro e w1 ⟨b,c,rfl,hr,hl,hb,h1,h2⟩;have B:=ad hb;have R:=ad hr;have L:=ad hl;have C1:=ad h1;have C2:=ad h2;clear hb hr hl h1 h2;go_wp2;go_ret;exact⟨b,c,rfl,R.out,L.out,C1.out,C2.out,B.out⟩
theorem uM (n wd:Int)(k:Nat)(w:World)(h1:1<=k)(h2:k<=21)(hn:wd= (k:Int) +1)(h0:0<=n)(hm:n<=mx k) :
 Calls Tryz.prog 206 #[.int .i64 n,.int .i64 wd] w (gA (eK k n) (k+1) w) :=by
 have hF:Calls Tryz.prog 202 #[.int .i64 n,.int .i64 wd] w (Ls (eK k n) (k+1) 0 w) :=
  (Oct.yx n wd k w h1 h2 hn h0 hm).mono fun e w' ⟨h,ho,hb⟩=>⟨_,_,h,.bJ ho (vH k n),(lU ho).2,hb,ah,by unfold maxLen;omega⟩
 have HF:=ad hF;clear hF;obtain⟨zs,HZ⟩:=named (eK k n);obtain⟨m,HM⟩:=named (k+1);rw[<- HZ.out,<- HM.out]at HF⊢;clear h1 h2 hn h0 hm HM;go_enter Tryz.func206,Tryz.ntmps206;go_wp2_with fail;refine HF.out.mono ?_;rintro e w1 ⟨b,c,rfl,hr,hl,hb,h1,h2⟩;have B:=ad hb;have R:=ad hr;have L:=ad hl;have C1:=ad h1;have C2:=ad h2;clear hb hr hl h1 h2;go_wp2;go_ret;exact⟨b,c,rfl,R.out,L.out,C1.out,C2.out,B.out⟩
end Go.Proofs.YtcjagakckffkiaaGreatDoor.Ust
namespace Go.Proofs.YtcjagakckffkiaaGreatDoor.Ust
open Go.RowKit
open Oct Cst jC
theorem gA.pre {zs:List Int}{n:Nat}{w w1 w':World}{e:Ending}(h:gA zs n w1 e w')(hb:Below w.heap.size w w1) :gA zs n w e w':=by
 obtain⟨b,c,h1,h2,h3,h4,h5,h6⟩:=h;exact⟨b,c,h1,h2,h3,h4,h5,ar hb h6⟩
section
variable (T:Int) (nm pf lk:ByteArray) (md sz:Int) (w:World)
theorem Jf (wd:Int)(k:Nat)(hk:wd= (k:Int))(h:jd (af nm) k=0) :
 Calls Tryz.prog 154 #[.agg (bA T nm pf lk md sz).toArray,.int .i64 wd] w (gA (dr (af nm) k) k w) :=by
 have HF:Hid (∀w,Calls Tryz.prog 204 #[.string nm,.int .i64 wd] w (gA (dr (af nm) k) k w)) :=fun w=>ku nm wd k w hk h;obtain⟨zs,HZ⟩:=named (dr (af nm) k);rw[<- HZ.out]at HF⊢;clear hk h;go_enter Tryz.func154,Tryz.ntmps154;go_wp2_with (first| (refine aj rfl 130 _ rfl (bA T nm pf lk md sz) rfl ?_;intro w1 h1 b1;have H1:=ad h1;have B1:=ad b1;have c0:=h1.get 1 rfl;clear h1 b1));refine(HF.out _).mono ?_;rintro e w2 ⟨b,c,rfl,h1,h2,h3,h4,h5⟩;have F:=ad (And.intro h1 (And.intro h2 (And.intro h3 (And.intro h4 (ar B1.out h5)))));clear h1 h2 h3 h4 h5;go_wp2;go_ret;exact⟨b,c,rfl,F.out⟩
theorem KV (wd:Int)(k:Nat)(hk:wd= (k:Int))(h:jd (af lk) k=0) :
 Calls Tryz.prog 164 #[.agg (bA T nm pf lk md sz).toArray,.int .i64 wd] w (gA (dr (af lk) k) k w) :=by
 have HF:Hid (∀w,Calls Tryz.prog 204 #[.string lk,.int .i64 wd] w (gA (dr (af lk) k) k w)) :=fun w=>ku lk wd k w hk h;obtain⟨zs,HZ⟩:=named (dr (af lk) k);rw[<- HZ.out]at HF⊢;clear hk h;go_enter Tryz.func164,Tryz.ntmps164;go_wp2_with (first| (refine aj rfl 130 _ rfl (bA T nm pf lk md sz) rfl ?_;intro w1 h1 b1;have H1:=ad h1;have B1:=ad b1;have c0:=h1.get 3 rfl;clear h1 b1));refine(HF.out _).mono ?_;rintro e w2 ⟨b,c,rfl,h1,h2,h3,h4,h5⟩;have F:=ad (And.intro h1 (And.intro h2 (And.intro h3 (And.intro h4 (ar B1.out h5)))));clear h1 h2 h3 h4 h5;go_wp2;go_ret;exact⟨b,c,rfl,F.out⟩
theorem Cs (wd:Int)(k:Nat)(hk:wd= (k:Int))(h:jd (af pf) k=0) :
 Calls Tryz.prog 168 #[.agg (bA T nm pf lk md sz).toArray,.int .i64 wd] w (gA (dr (af pf) k) k w) :=by
 have HF:Hid (∀w,Calls Tryz.prog 204 #[.string pf,.int .i64 wd] w (gA (dr (af pf) k) k w)) :=fun w=>ku pf wd k w hk h;obtain⟨zs,HZ⟩:=named (dr (af pf) k);rw[<- HZ.out]at HF⊢;clear hk h;go_enter Tryz.func168,Tryz.ntmps168;go_wp2_with (first| (refine aj rfl 130 _ rfl (bA T nm pf lk md sz) rfl ?_;intro w1 h1 b1;have H1:=ad h1;have B1:=ad b1;have c0:=h1.get 2 rfl;clear h1 b1));refine(HF.out _).mono ?_;rintro e w2 ⟨b,c,rfl,h1,h2,h3,h4,h5⟩;have F:=ad (And.intro h1 (And.intro h2 (And.intro h3 (And.intro h4 (ar B1.out h5)))));clear h1 h2 h3 h4 h5;go_wp2;go_ret;exact⟨b,c,rfl,F.out⟩
theorem Hr:
 Calls Tryz.prog 166 #[.agg (bA T nm pf lk md sz).toArray,.int .i64 6] w (gA [117,115,116,97,114,0] 6 w) :=by
 have HF:Hid (∀w,Calls Tryz.prog 204 #[.string {data:= #[117,115,116,97,114]},.int .i64 6] w (gA [117,115,116,97,114,0] 6 w)) :=fun w=>ku {data:= #[117,115,116,97,114]} 6 6 w rfl (by decide);obtain⟨zs,HZ⟩:=named ([117,115,116,97,114,0] :List Int);rw[<- HZ.out]at HF⊢;go_enter Tryz.func166,Tryz.ntmps166;go_wp2_with (first| (refine aj rfl 130 _ rfl (bA T nm pf lk md sz) rfl ?_;intro w1 h1 b1;have B1:=ad b1;clear h1 b1));refine(HF.out _).mono ?_;rintro e w2 ⟨b,c,rfl,h1,h2,h3,h4,h5⟩;have F:=ad (And.intro h1 (And.intro h2 (And.intro h3 (And.intro h4 (ar B1.out h5)))));clear h1 h2 h3 h4 h5;go_wp2;go_ret;exact⟨b,c,rfl,F.out⟩
theorem ym:
 Calls Tryz.prog 167 #[.agg (bA T nm pf lk md sz).toArray,.int .i64 2] w (gA [48,48] 2 w) :=by
 have HF:Hid (∀w,Calls Tryz.prog 204 #[.string {data:= #[48,48]},.int .i64 2] w (gA [48,48] 2 w)) :=fun w=>ku {data:= #[48,48]} 2 2 w rfl (by decide);obtain⟨zs,HZ⟩:=named ([48,48] :List Int);rw[<- HZ.out]at HF⊢;go_enter Tryz.func167,Tryz.ntmps167;go_wp2_with (first| (refine aj rfl 130 _ rfl (bA T nm pf lk md sz) rfl ?_;intro w1 h1 b1;have B1:=ad b1;clear h1 b1));refine(HF.out _).mono ?_;rintro e w2 ⟨b,c,rfl,h1,h2,h3,h4,h5⟩;have F:=ad (And.intro h1 (And.intro h2 (And.intro h3 (And.intro h4 (ar B1.out h5)))));clear h1 h2 h3 h4 h5;go_wp2;go_ret;exact⟨b,c,rfl,F.out⟩
theorem Lc (h0:0<=md)(hm:md<=4095) :
 Calls Tryz.prog 156 #[.agg (bA T nm pf lk md sz).toArray,.int .i64 8] w (gA (eK 7 md) 8 w) :=by
 have HF:Hid (∀w,Calls Tryz.prog 206 #[.int .i64 md,.int .i64 8] w (gA (eK 7 md) 8 w)) :=fun w=>uM md 8 7 w (by decide) (by decide) rfl h0 (by rw[Pq];omega);obtain⟨zs,HZ⟩:=named (eK 7 md);rw[<- HZ.out]at HF⊢;clear h0 hm;go_enter Tryz.func156,Tryz.ntmps156;go_wp2_with (first| (refine aj rfl 130 _ rfl (bA T nm pf lk md sz) rfl ?_;intro w1 h1 b1;have H1:=ad h1;have B1:=ad b1;have c0:=h1.get 4 rfl;clear h1 b1));refine(HF.out _).mono ?_;rintro e w2 ⟨b,c,rfl,h1,h2,h3,h4,h5⟩;have F:=ad (And.intro h1 (And.intro h2 (And.intro h3 (And.intro h4 (ar B1.out h5)))));clear h1 h2 h3 h4 h5;go_wp2;go_ret;exact⟨b,c,rfl,F.out⟩
theorem JJ (h0:0<=sz)(hm:sz<=8589934591) :
 Calls Tryz.prog 160 #[.agg (bA T nm pf lk md sz).toArray,.int .i64 12] w (gA (eK 11 sz) 12 w) :=by
 have HF:Hid (∀w,Calls Tryz.prog 206 #[.int .i64 sz,.int .i64 12] w (gA (eK 11 sz) 12 w)) :=fun w=>uM sz 12 11 w (by decide) (by decide) rfl h0 (by rw[He];omega);obtain⟨zs,HZ⟩:=named (eK 11 sz);rw[<- HZ.out]at HF⊢;clear h0 hm;go_enter Tryz.func160,Tryz.ntmps160;go_wp2_with (first| (refine aj rfl 130 _ rfl (bA T nm pf lk md sz) rfl ?_;intro w1 h1 b1;have H1:=ad h1;have B1:=ad b1;have c0:=h1.get 5 rfl;clear h1 b1));refine(HF.out _).mono ?_;rintro e w2 ⟨b,c,rfl,h1,h2,h3,h4,h5⟩;have F:=ad (And.intro h1 (And.intro h2 (And.intro h3 (And.intro h4 (ar B1.out h5)))));clear h1 h2 h3 h4 h5;go_wp2;go_ret;exact⟨b,c,rfl,F.out⟩
theorem mD (wd:Int)(k:Nat)(h1:1<=k)(h2:k<=21)(hn:wd= (k:Int) +1) :
 Calls Tryz.prog 158 #[.agg (bA T nm pf lk md sz).toArray,.int .i64 wd] w (gA (eK k 0) (k+1) w) :=by
 have HF:Hid (∀w,Calls Tryz.prog 206 #[.int .i64 0,.int .i64 wd] w (gA (eK k 0) (k+1) w)) :=fun w=>uM 0 wd k w h1 h2 hn (by decide) (oX k);obtain⟨zs,HZ⟩:=named (eK k 0);obtain⟨m,HM⟩:=named (k+1);rw[<- HZ.out,<- HM.out]at HF⊢;clear h1 h2 hn HM;go_enter Tryz.func158,Tryz.ntmps158;go_wp2_with (first| (refine aj rfl 130 _ rfl (bA T nm pf lk md sz) rfl ?_;intro w1 h1 b1;have B1:=ad b1;clear h1 b1));refine(HF.out _).mono ?_;rintro e w2 ⟨b,c,rfl,h1,h2,h3,h4,h5⟩;have F:=ad (And.intro h1 (And.intro h2 (And.intro h3 (And.intro h4 (ar B1.out h5)))));clear h1 h2 h3 h4 h5;go_wp2;go_ret;exact⟨b,c,rfl,F.out⟩
theorem Li (hT:0<=T/\T<=255)(wd:Int) :
 Calls Tryz.prog 162 #[.agg (bA T nm pf lk md sz).toArray,.int .i64 wd] w (gA [T] 1 w) :=by
 have HT:=ad hT;have HI:=ad Cst.Tryz.xH;go_enter Tryz.func162,Tryz.ntmps162;go_wp2_with (first| (refine aj rfl 130 _ rfl (bA T nm pf lk md sz) rfl ?_;intro w1 h1 b1;have H1:=ad h1;have B1:=ad b1;have c0:=h1.get 0 rfl;clear h1 b1) | (refine qU rfl 25 5 _ rfl Tryz.underlying25 HI.out T rfl HT.out ?_;intro w2 h2 b2;have H2:=ad h2;have B2:=ad b2;clear h2 b2));go_ret;exact⟨_,_,rfl,H2.out.row,H2.out.lt,ah,by unfold maxLen;omega,ar B1.out B2.out⟩
end
end Go.Proofs.YtcjagakckffkiaaGreatDoor.Ust
namespace Go.Proofs.YtcjagakckffkiaaGreatDoor.Ust
open Oct Cst jC
def yb (j:Nat) :Nat:= [0,100,108,116,124,136,156,157,257,263,329,337,345].getD j 0
def wC (j:Nat) :Nat:= [100,8,8,8,12,12,1,100,6,2,8,8,155].getD j 0
section
variable (T:Int) (nm pf lk:ByteArray) (md sz:Int)
def DM (j:Nat) :List Int:=
 [dr (af nm) 100,eK 7 md,eK 7 0,eK 7 0,eK 11 sz,eK 11 0,[T],dr (af lk) 100,[117,115,116,97,114,0],[48,48],eK 7 0,eK 7 0,dr (af pf) 155].getD j []
def cont:Nat->List Int
 |0=>ao 512
 |j+1=>lay (cont j) (yb j) (DM T nm pf lk md sz j)
end
theorem dK (m n:Nat) :ao (m+n) =ao m++ao n:=List.replicate_append_replicate.symm
theorem dz (A V:List Int)(g r:Nat){o m:Nat}(ho:o=A.length+g)(hm:m=g+ (V.length+r)) :lay (A++ao m) o V= (A++ (ao g++V)) ++ao r:=by
 subst ho;subst hm;unfold lay;rw[dK g,dK V.length,<- List.append_assoc A];have hl: (A++ao g).length=A.length+g:=by simp[al]
 rw[show A.length+g= (A++ao g).length from hl.symm,List.take_left,<- List.drop_drop,List.drop_left];rw[List.drop_left' (al V.length)];simp[List.append_assoc]
section
variable {T:Int} {nm pf lk:ByteArray} {md sz:Int}
theorem kG (h:mA T nm pf lk md sz=0){j:Nat}(hj:j<13) : (DM T nm pf lk md sz j).length=wC j:=by
 obtain⟨_,h2,h3,h4,_⟩:=dx.1 h;have l1:=bV _ _ (eU (k:=100) h2);have l2:=bV _ _ (eU (k:=100) h3);have l3:=bV _ _ (eU (k:=155) h4);have f7:=bW 7;have f11:=bW 11
 match j,hj with
 |0,_=>exact l1
 |1,_=>exact f7 _
 |2,_=>exact f7 _
 |3,_=>exact f7 _
 |4,_=>exact f11 _
 |5,_=>exact f11 _
 |6,_=>rfl
 |7,_=>exact l2
 |8,_=>rfl
 |9,_=>rfl
 |10,_=>exact f7 _
 |11,_=>exact f7 _
 |12,_=>exact l3
theorem pW {j:Nat}(hj:j<13) :yb j+wC j<=500:=by
 match j,hj with
 |0,_=>decide
 |1,_=>decide
 |2,_=>decide
 |3,_=>decide
 |4,_=>decide
 |5,_=>decide
 |6,_=>decide
 |7,_=>decide
 |8,_=>decide
 |9,_=>decide
 |10,_=>decide
 |11,_=>decide
 |12,_=>decide
theorem kE (h:mA T nm pf lk md sz=0) :∀{j:Nat},j<=13-> (cont T nm pf lk md sz j).length=512
 |0,_=>al 512
 |j+1,hj=>by
  have ih:=kE h (j:=j) (by omega);have hv:=kG h (j:=j) (by omega);have hw:=pW (j:=j) (by omega);unfold cont;rw[lG _ _ _ (by omega),ih]
theorem BG (h:mA T nm pf lk md sz=0) :cont T nm pf lk md sz 13=kf (af nm) md sz++ (ao 8++lx T (af pf) (af lk)) :=by
 obtain⟨_,h2,h3,h4,_⟩:=dx.1 h;have l1:=bV _ _ (eU (k:=100) h2);have l2:=bV _ _ (eU (k:=100) h3);have l3:=bV _ _ (eU (k:=155) h4);have f7:=bW 7;have f11:=bW 11;have zl:=al;have e64:ao 64=ao 32++ao 32:=dK 32 32;obtain⟨N,hN⟩:∃N,N=dr (af nm) 100:=⟨_,rfl⟩;obtain⟨L,hL⟩:∃N,N=dr (af lk) 100:=⟨_,rfl⟩;obtain⟨Q,hQ⟩:∃N,N=dr (af pf) 155:=⟨_,rfl⟩;obtain⟨M,hM⟩:∃N,N=eK 7 md:=⟨_,rfl⟩;obtain⟨S,hS⟩:∃N,N=eK 11 sz:=⟨_,rfl⟩;obtain⟨Z,hZ⟩:∃N,N=eK 7 0:=⟨_,rfl⟩;obtain⟨Y,hY⟩:∃N,N=eK 11 0:=⟨_,rfl⟩;have m1:M.length=8:=by rw[hM];exact f7 _
 have m2:S.length=12:=by rw[hS];exact f11 _
 have m3:Z.length=8:=by rw[hZ];exact f7 _
 have m4:Y.length=12:=by rw[hY];exact f11 _
 rw[<- hN]at l1;rw[<- hL]at l2;rw[<- hQ]at l3
 have c0:cont T nm pf lk md sz 1= ([] ++ (ao 0++N)) ++ao 412:=by
  show lay (ao 512) 0 (dr (af nm) 100) =_;rw[<- hN];exact dz [] N 0 412 rfl (by rw[l1])
 have c1:cont T nm pf lk md sz 2= (N++ (ao 0++M)) ++ao 404:=by
  show lay (cont T nm pf lk md sz 1) 100 (eK 7 md) =_;rw[c0,<- hM];exact dz N M 0 404 (by simp[l1]) (by simp[m1])
 obtain⟨A1,hA1⟩:∃A,A=N++ (ao 0++M) :=⟨_,rfl⟩;have a1:A1.length=108:=by simp[hA1,l1,m1,zl]
 have c2:cont T nm pf lk md sz 3= (A1++ (ao 0++Z)) ++ao 396:=by
  show lay (cont T nm pf lk md sz 2) 108 (eK 7 0) =_;rw[c1,<- hZ,<- hA1];exact dz A1 Z 0 396 (by simp[a1]) (by simp[m3])
 obtain⟨A2,hA2⟩:∃A,A=A1++ (ao 0++Z) :=⟨_,rfl⟩;have a2:A2.length=116:=by simp[hA2,a1,m3,zl]
 have c3:cont T nm pf lk md sz 4= (A2++ (ao 0++Z)) ++ao 388:=by
  show lay (cont T nm pf lk md sz 3) 116 (eK 7 0) =_;rw[c2,<- hZ,<- hA2];exact dz A2 Z 0 388 (by simp[a2]) (by simp[m3])
 obtain⟨A3,hA3⟩:∃A,A=A2++ (ao 0++Z) :=⟨_,rfl⟩;have a3:A3.length=124:=by simp[hA3,a2,m3,zl]
 have c4:cont T nm pf lk md sz 5= (A3++ (ao 0++S)) ++ao 376:=by
  show lay (cont T nm pf lk md sz 4) 124 (eK 11 sz) =_;rw[c3,<- hS,<- hA3];exact dz A3 S 0 376 (by simp[a3]) (by simp[m2])
 obtain⟨A4,hA4⟩:∃A,A=A3++ (ao 0++S) :=⟨_,rfl⟩;have a4:A4.length=136:=by simp[hA4,a3,m2,zl]
 have c5:cont T nm pf lk md sz 6= (A4++ (ao 0++Y)) ++ao 364:=by
  show lay (cont T nm pf lk md sz 5) 136 (eK 11 0) =_;rw[c4,<- hY,<- hA4];exact dz A4 Y 0 364 (by simp[a4]) (by simp[m4])
 obtain⟨A5,hA5⟩:∃A,A=A4++ (ao 0++Y) :=⟨_,rfl⟩;have a5:A5.length=148:=by simp[hA5,a4,m4,zl]
 have c6:cont T nm pf lk md sz 7= (A5++ (ao 8++ [T])) ++ao 355:=by
  show lay (cont T nm pf lk md sz 6) 156 [T] =_;rw[c5,<- hA5];exact dz A5 [T] 8 355 (by simp[a5]) (by simp)
 obtain⟨A6,hA6⟩:∃A,A=A5++ (ao 8++ [T]) :=⟨_,rfl⟩;have a6:A6.length=157:=by simp[hA6,a5,zl]
 have c7:cont T nm pf lk md sz 8= (A6++ (ao 0++L)) ++ao 255:=by
  show lay (cont T nm pf lk md sz 7) 157 (dr (af lk) 100) =_;rw[c6,<- hL,<- hA6];exact dz A6 L 0 255 (by simp[a6]) (by simp[l2])
 obtain⟨A7,hA7⟩:∃A,A=A6++ (ao 0++L) :=⟨_,rfl⟩;have a7:A7.length=257:=by simp[hA7,a6,l2,zl]
 have c8:cont T nm pf lk md sz 9= (A7++ (ao 0++ [117,115,116,97,114,0])) ++ao 249:=by
  show lay (cont T nm pf lk md sz 8) 257 [117,115,116,97,114,0] =_;rw[c7,<- hA7];exact dz A7 _ 0 249 (by simp[a7]) (by simp)
 obtain⟨A8,hA8⟩:∃A,A=A7++ (ao 0++ [117,115,116,97,114,0]) :=⟨_,rfl⟩;have a8:A8.length=263:=by simp[hA8,a7,zl]
 have c9:cont T nm pf lk md sz 10= (A8++ (ao 0++ [48,48])) ++ao 247:=by
  show lay (cont T nm pf lk md sz 9) 263 [48,48] =_;rw[c8,<- hA8];exact dz A8 _ 0 247 (by simp[a8]) (by simp)
 obtain⟨A9,hA9⟩:∃A,A=A8++ (ao 0++ [48,48]) :=⟨_,rfl⟩;have a9:A9.length=265:=by simp[hA9,a8,zl]
 have c10:cont T nm pf lk md sz 11= (A9++ (ao 64++Z)) ++ao 175:=by
  show lay (cont T nm pf lk md sz 10) 329 (eK 7 0) =_;rw[c9,<- hZ,<- hA9];exact dz A9 Z 64 175 (by simp[a9]) (by simp[m3])
 obtain⟨A10,hA10⟩:∃A,A=A9++ (ao 64++Z) :=⟨_,rfl⟩;have a10:A10.length=337:=by simp[hA10,a9,m3,zl]
 have c11:cont T nm pf lk md sz 12= (A10++ (ao 0++Z)) ++ao 167:=by
  show lay (cont T nm pf lk md sz 11) 337 (eK 7 0) =_;rw[c10,<- hZ,<- hA10];exact dz A10 Z 0 167 (by simp[a10]) (by simp[m3])
 obtain⟨A11,hA11⟩:∃A,A=A10++ (ao 0++Z) :=⟨_,rfl⟩;have a11:A11.length=345:=by simp[hA11,a10,m3,zl]
 have c12:cont T nm pf lk md sz 13= (A11++ (ao 0++Q)) ++ao 12:=by
  show lay (cont T nm pf lk md sz 12) 345 (dr (af pf) 155) =_;rw[c11,<- hQ,<- hA11];exact dz A11 Q 0 12 (by simp[a11]) (by simp[l3])
 rw[c12,hA11,hA10,hA9,hA8,hA7,hA6,hA5,hA4,hA3,hA2,hA1,e64];unfold kf lx xG;rw[<- hN,<- hL,<- hQ,<- hM,<- hS,<- hZ,<- hY];have z0:ao 0= [] :=rfl;simp only[z0,List.nil_append,List.append_assoc,List.cons_append]
theorem po (h:mA T nm pf lk md sz=0) :cu (cont T nm pf lk md sz 13) =dL T nm pf lk md sz:=by
 obtain⟨_,h2,h3,h4,_⟩:=dx.1 h;have la:=gB (md:=md) (sz:=sz) (eU (k:=100) h2);have hF: (ao 8).length=8:=al 8
 have e1:cont T nm pf lk md sz 13=lay (pU T nm pf lk md sz) 148 (ao 8) :=by
  rw[BG h];unfold lay;rw[hF];have a1: (pU T nm pf lk md sz).take 148=kf (af nm) md sz:=gL la
  have a2: (pU T nm pf lk md sz).drop (148+8) =lx T (af pf) (af lk) :=by
   unfold pU;rw[bO 148 8 la rfl,bO 8 0 jg rfl,List.drop_zero]
  rw[a1,a2]
 rw[e1,tP _ _ (mj h) hF];rfl
end
end Go.Proofs.YtcjagakckffkiaaGreatDoor.Ust
namespace Go.Proofs.YtcjagakckffkiaaGreatDoor
open Go.RowKit
theorem au {P:Program}{f:FuncId}{fn:Func}(hf:P.funcs[f]? =some fn)(hn: (fn.name== "runtime.NumGoroutine") =false)(hb:fn.body.isNone=false)(args:Array Value)(w:World) :
 (callFunc f args).run P w= .ok (.enter f args) w:=by
 have h1:fn.name≠ "runtime.NumGoroutine":=by simpa using hn
 have h2:¬fn.body=none:=by intro h;simp[h]at hb
 simp[callFunc,hf,h1,h2]
section
variable {P:Program} {w:World} {ops:Array Oper} {rest:List Oper} {o:Oper} {a:Act} {Q:Exit->Act->World->Prop}
theorem iE {T:TypeId}{n:Nat}(hT:ij P T n)(b off:Nat)(vs:List Value)(hl:vs.length=n)(hr:∀j u,vs[j]? =some u->w.cell? ⟨b,off+j,none⟩=some u) :
 (loadVar T ⟨b,off,none⟩).run P w= .ok (.agg vs.toArray) w:=by
 obtain⟨⟨fs,h1⟩,hs⟩:=hT;have hll:=run_loadCells_list (P:=P) w ⟨b,off,none⟩ vs (fun j u hj=>by rw[dC];exact hr j u hj);rw[hl]at hll
 cases hq:P.info? T with
 |none=>simp[hq]at hs
 |some i=>
  have hs:i.size=n:=by simpa [hq]using hs
  have hagg: (isAgg T).run P w= .ok true w:=by
   unfold isAgg;rw[Sem.run_bind,run_underlying h1 w];simp
  simp[loadVar,Sem.run_bind,hagg,sizeOf,typeInfo,hq,hs,hll]
theorem cz (hgd:o.guard=none)(T:TypeId)(n:Nat)(hT:ij P T n)(x:Operand)(ho:o.op= .load T x)(b off:Nat)(hx:a.eval x= .pointer (some ⟨b,off,none⟩))
 (vs:List Value)(hl:vs.length=n)(hr:∀j u,vs[j]? =some u->w.cell? ⟨b,off+j,none⟩=some u)(K:wpList P ops Q rest (a.put o.dst (.agg vs.toArray)) w) :wpList P ops Q (o::rest) a w:=by
 refine wpList_plain hgd fun K' hK=>?_;unfold Oper.wp execOp;simp only[ho,hx,Instr.loadAt,Instr.sureAddr,Sem.run_bind,Sem.run_pure,Result.andThen_ok,iE hT b off vs hl hr];exact hK _ _ K
theorem sM {K:Act->World->Prop}{E:Prop}(hgd:o.guard=none)(d x:Operand)(dT sT:TypeId)(ho:o.op= .call {callee:= .builtin .copy,args:= #[d,x],argTypes:= #[dT,sT]})
 (e:TypeId)(hT:P.underlying dT=some (.slice e))(he: (P.info? e).map (·.size) =some 1)
 (g off n cap:Nat)(hd:a.eval d= .slice (some ⟨g,off,none⟩) n cap)(b:Option Addr)(m c:Nat)(hx:a.eval x= .slice b m c)(ys:List Int)(hy:BytesIn w b ys)(hm:ys.length=m)
 (T:TypeId)(zs:List Int)(hg:bP w g T zs)(hfit:off+n<=zs.length)
 (k:∀w',bP w' g T (lay zs off (ys.take n))->dp w w' g->K (a.put o.dst (goInt (ys.take n).length)) w') :
 if Region.wanted o (yielded ops a.tmps) =true then Oper.wp P o a w K Q else E:=by
 have hw:Region.wanted o (yielded ops a.tmps) =true:=by simp[Region.wanted,hgd]
 rw[if_pos hw];have hmn: (ys.take n).length=Nat.min m n:=by rw[List.length_take,hm];exact Nat.min_comm _ _
 by_cases h0:Nat.min m n=0
 ·have e0:ys.take n= [] :=List.eq_nil_of_length_eq_zero (hmn.trans h0);have hrun:=run_copy_none (P:=P) w dT sT o.type e (some ⟨g,off,none⟩) b n cap m c hT he h0;unfold Oper.wp;simp[execOp,ho,resolve,invoke,builtin,hd,hx,hrun,Result.andThen];have:=k w (by rw[e0];simpa [lay]using hg) ⟨arr zs,(setRow_self w g (arr zs) T (0,0) hg.1).symm⟩;rw[e0]at this;exact this
 ·rcases hy with hy|⟨b',off',rfl,_,hr⟩
  ·exfalso;apply h0;rw[<- hm,hy];exact Nat.zero_min _
  ·have hrun:=run_copy_row (P:=P) w dT sT o.type e g off n cap ⟨b',off',none⟩ m c (arr zs) T ((ys.take n).map (Value.int .u8)) hT he hg.1 (by rw[List.length_map];exact hmn)
    (fun j v hj=>hr.news j v (by
      rw[List.map_take,List.getElem?_take]at hj
      split at hj
      ·exact hj
      ·cases hj)) (by rw[List.length_map,iN,List.length_take];omega) (iy _ _)
   rw[List.length_map]at hrun;unfold Oper.wp;simp[execOp,ho,resolve,invoke,builtin,hd,hx,hrun,Result.andThen];rw[Oper.upon_value];have hk:=k _ (by have:=lX w g T zs off (ys.take n) hg (Bytes.take hr.2 n);simpa using this) ⟨_,rfl⟩
   simpa using hk
end
end Go.Proofs.YtcjagakckffkiaaGreatDoor
namespace Go.Proofs.YtcjagakckffkiaaGreatDoor.Ust
open Go.RowKit
open Oct Cst jC
abbrev xV (off wd:Int)(f p:FuncId) :List Value:= [.int .i64 off,.int .i64 wd,.func (.func f) #[] #[],.func (.func p) #[] #[]]
def Ir:List (Nat×Nat×FuncId×FuncId) :=
 [(0,100,154,155),(100,8,156,157),(108,8,158,159),(116,8,158,159),
  (124,12,160,161),(136,12,158,159),(156,1,162,163),(157,100,164,165),
  (257,6,166,159),(263,2,167,159),(329,8,158,159),(337,8,158,159),(345,155,168,169)]
def rowOf (r:Nat×Nat×FuncId×FuncId) :List Value:=xV r.1 r.2.1 r.2.2.1 r.2.2.2
def Ct:List Value:=Ir.flatMap rowOf
def Qg (j:Nat) :Nat×Nat×FuncId×FuncId:=Ir.getD j (0,0,0,0)
def uT (j:Nat) :FuncId:= (Qg j).2.2.1
def ug (j:Nat) :FuncId:= (Qg j).2.2.2
theorem Ac {j:Nat}(hj:j<13) :∀i u,(xV (yb j) (wC j) (uT j) (ug j))[i]? =some u->Ct[j*4+i]? =some u:=by
 intro i u hu
 have hi:i<4:=by
  rcases Nat.lt_or_ge i 4 with h|h
  ·exact h
  ·rw[List.getElem?_eq_none (by simpa using h)]at hu;cases hu
 rw[<- hu]
 match j,hj,i,hi with
 |0,_,0,_|0,_,1,_|0,_,2,_|0,_,3,_=>rfl
 |1,_,0,_|1,_,1,_|1,_,2,_|1,_,3,_=>rfl
 |2,_,0,_|2,_,1,_|2,_,2,_|2,_,3,_=>rfl
 |3,_,0,_|3,_,1,_|3,_,2,_|3,_,3,_=>rfl
 |4,_,0,_|4,_,1,_|4,_,2,_|4,_,3,_=>rfl
 |5,_,0,_|5,_,1,_|5,_,2,_|5,_,3,_=>rfl
 |6,_,0,_|6,_,1,_|6,_,2,_|6,_,3,_=>rfl
 |7,_,0,_|7,_,1,_|7,_,2,_|7,_,3,_=>rfl
 |8,_,0,_|8,_,1,_|8,_,2,_|8,_,3,_=>rfl
 |9,_,0,_|9,_,1,_|9,_,2,_|9,_,3,_=>rfl
 |10,_,0,_|10,_,1,_|10,_,2,_|10,_,3,_=>rfl
 |11,_,0,_|11,_,1,_|11,_,2,_|11,_,3,_=>rfl
 |12,_,0,_|12,_,1,_|12,_,2,_|12,_,3,_=>rfl
theorem BV {j:Nat}(hj:j<13)(args:Array Value)(w:World) : (callFunc (uT j) args).run Tryz.prog w= .ok (.enter (uT j) args) w:=by
 match j,hj with
 |0,_=>exact au Tryz.func154 (by kernel_rfl) (by kernel_rfl) args w
 |1,_=>exact au Tryz.func156 (by kernel_rfl) (by kernel_rfl) args w
 |2,_=>exact au Tryz.func158 (by kernel_rfl) (by kernel_rfl) args w
 |3,_=>exact au Tryz.func158 (by kernel_rfl) (by kernel_rfl) args w
 |4,_=>exact au Tryz.func160 (by kernel_rfl) (by kernel_rfl) args w
 |5,_=>exact au Tryz.func158 (by kernel_rfl) (by kernel_rfl) args w
 |6,_=>exact au Tryz.func162 (by kernel_rfl) (by kernel_rfl) args w
 |7,_=>exact au Tryz.func164 (by kernel_rfl) (by kernel_rfl) args w
 |8,_=>exact au Tryz.func166 (by kernel_rfl) (by kernel_rfl) args w
 |9,_=>exact au Tryz.func167 (by kernel_rfl) (by kernel_rfl) args w
 |10,_=>exact au Tryz.func158 (by kernel_rfl) (by kernel_rfl) args w
 |11,_=>exact au Tryz.func158 (by kernel_rfl) (by kernel_rfl) args w
 |12,_=>exact au Tryz.func168 (by kernel_rfl) (by kernel_rfl) args w
theorem Db {j:Nat}(hj:j<13)(args:Array Value)(w:World) : (callFunc (ug j) args).run Tryz.prog w= .ok (.enter (ug j) args) w:=by
 match j,hj with
 |0,_=>exact au Tryz.func155 (by kernel_rfl) (by kernel_rfl) args w
 |1,_=>exact au Tryz.func157 (by kernel_rfl) (by kernel_rfl) args w
 |2,_=>exact au Tryz.func159 (by kernel_rfl) (by kernel_rfl) args w
 |3,_=>exact au Tryz.func159 (by kernel_rfl) (by kernel_rfl) args w
 |4,_=>exact au Tryz.func161 (by kernel_rfl) (by kernel_rfl) args w
 |5,_=>exact au Tryz.func159 (by kernel_rfl) (by kernel_rfl) args w
 |6,_=>exact au Tryz.func163 (by kernel_rfl) (by kernel_rfl) args w
 |7,_=>exact au Tryz.func165 (by kernel_rfl) (by kernel_rfl) args w
 |8,_=>exact au Tryz.func159 (by kernel_rfl) (by kernel_rfl) args w
 |9,_=>exact au Tryz.func159 (by kernel_rfl) (by kernel_rfl) args w
 |10,_=>exact au Tryz.func159 (by kernel_rfl) (by kernel_rfl) args w
 |11,_=>exact au Tryz.func159 (by kernel_rfl) (by kernel_rfl) args w
 |12,_=>exact au Tryz.func169 (by kernel_rfl) (by kernel_rfl) args w
set_option maxRecDepth 100000 in
theorem qF (w:World) :Calls Tryz.prog 108 #[] w fun e w'=>e= .returned (.slice (some ⟨w.heap.size,0,none⟩) 13 13)/\ak w' w.heap.size 192 Ct/\Below w.heap.size w w':=by
 go_enter Tryz.func108,Tryz.ntmps108;go_wp2;go_ret;exact⟨rfl,heap_alloc_new w _,aF.alloc ah _⟩
end Go.Proofs.YtcjagakckffkiaaGreatDoor.Ust
