import Derived.Test.YtcjagakckffkiaaGreatDoorS16
import Derived.Laws.IdiomCopy
import Derived.Laws.IdiomStrings
set_option maxHeartbeats 16000000
set_option maxRecDepth 100000
namespace Go.Proofs.YtcjagakckffkiaaGreatDoor
namespace Pxr
open Go.RowKit
theorem nu (k v:ByteArray)(w:World)(h:lx (k,v)<=100000) :Calls Tryz.prog 119 #[.agg #[.string k,.string v]] w fun e w'=>e= .returned (.string (strOfNums (pw (k,v))))/\Below w.heap.size w w':=by
 obtain⟨T,hT⟩:=named (strOfNums (cy (kd (k,v))));have ES:Hid (T++ {data:= #[32]} ++k++ {data:= #[61]} ++v++ {data:= #[10]} =strOfNums (pw (k,v))) :=by show _=_;rw[hT.out];exact tU (k,v)
 rw[<- ES.out];have go:lx (k,v)<=1000000:=by omega
 have hb:=tn go;have hz:kd (k,v)<=100008:=by unfold kd;omega
 have hts:T.size<=100:=by
  rw[hT.out,iB]
  have:=dq 6 (kd (k,v)) (by have: (10:Nat) ^ (6+1) =10000000:=by decide
                            omega)
  omega
 have hk:k.size<=100000:=by unfold lx at h;dsimp only at h;omega
 have hv:v.size<=100000:=by unfold lx at h;dsimp only at h;omega
 have s1:¬9223372036854775807<T.size+1:=by omega
 have s2:¬9223372036854775807<T.size+1+k.size:=by omega
 have s3:¬9223372036854775807<T.size+1+k.size+1:=by omega
 have s4:¬9223372036854775807<T.size+1+k.size+1+v.size:=by omega
 have s5:¬9223372036854775807<T.size+1+k.size+1+v.size+1:=by omega
 have SA:=aa fun w'=>vR k v w' go;have DA:=aa fun w'=>jL (kd (k,v)) (by omega) w';rw[<- hT.out]at DA;clear h go hb hz hts hk hv;go_enter Tryz.func119,Tryz.ntmps119;go_wp2_with (first| (refine af rfl 202 _ rfl [.string k,.string v] rfl ?_;intro w1 g1 b1;have G1:=aa g1;have B1:=aa b1;clear g1 b1));have d0:∀q:Of (fun w'=>Below w1.heap.size w1 w'),q.w.cell? ⟨w.heap.size,0,none⟩=some (.string k) :=fun q=> (G1.out.below q.h G1.out.lt).get 0 rfl;have d1:∀q:Of (fun w'=>Below w1.heap.size w1 w'),q.w.cell? ⟨w.heap.size,1,none⟩=some (.string v) :=fun q=> (G1.out.below q.h G1.out.lt).get 1 rfl;refine aq (S:=fun w'=>Below w1.heap.size w1 w') (by kernel_rfl) (by kernel_rfl) au.drew ?_;intro hne
 repeat (go_big_quiet_step (first| (go_at_call 177;exact Calls.dX (SA.out _) fun w' hb q=>q.trans (hb.mono q.size)) | (go_at_call 117;exact Calls.dX (DA.out _) fun w' hb q=>q.trans (hb.mono q.size))))
 refine wpQuiet_nil ?_;rintro wq ⟨q,rfl⟩;go_wp2;go_ret;exact⟨rfl,B1.out.trans (Below.mono q.h B1.out.size)⟩
theorem az {P:Program}{w:World}{fn:Func}{p q r:Tmp}{T:TypeId}{n:Nat}(h:fn.results= #[.cell p T,.tmp q,.tmp r])(hT:fV P T n)(tmps:Array Value)(g:Nat)(hp:tmps.getD p undef= .pointer (some ⟨g,0,none⟩))
 (T':TypeId)(vs:List Value)(hg:an w g T' vs)(hl:vs.length=n) : (results fn tmps).run P w= .ok (.tuple #[.agg vs.toArray,tmps.getD q undef,tmps.getD r undef]) w:=by
 have hp':tmps[p]?.getD undef= .pointer (some ⟨g,0,none⟩) :=by simpa using hp
 simp[results,h,hp',asAddr,fl hT g T' vs hg hl]
end Pxr
namespace Ust
open Go.RowKit
open Oct Cst gR
theorem oD {T:Int}(h:¬known T) : (T==48) =false/\ (T==49) =false/\ (T==50) =false/\ (T==53) =false/\ (T==120) =false:=by
 unfold known at h;simp only[not_or]at h;obtain⟨h1,h2,h3,h4,h5⟩:=h;simp[h1,h2,h3,h4,h5]
end Ust
namespace Cst
open Go.RowKit
def nK (n:Int) :Bool:=decide (1<=n/\n<=256)
theorem dR (n:Int)(w:World) :
 Calls Tryz.prog 228 #[.int .i64 n] w fun e w'=>e= .returned (.bool (nK n))/\w=w':=by
 by_cases h1:1<=n
 ·by_cases h2:n<=256
  ·have h:nK n=true:=by unfold nK;simp[h1,h2]
   rw[h];clear h;go_enter Tryz.func228,Tryz.ntmps228;go_wp2;go_ret;exact⟨rfl,rfl⟩
  ·have h:nK n=false:=by unfold nK;simp[h2]
   rw[h];clear h;go_enter Tryz.func228,Tryz.ntmps228;go_wp2;go_ret;exact⟨rfl,rfl⟩
 ·have h:nK n=false:=by unfold nK;simp[h1]
  rw[h];clear h;go_enter Tryz.func228,Tryz.ntmps228;go_wp2;go_ret;exact⟨rfl,rfl⟩
theorem jU {n:Int}(h1:1<=n)(h2:n<=256) :nK n=true:=by unfold nK;simp[h1,h2]
theorem kK {n:Int}(h:n<1\/256<n) :nK n=false:=by unfold nK;simp;omega
theorem pG (s:ByteArray)(w:World) :
 Calls Tryz.prog 189 #[.string s,.int .u8 0] w fun e w'=>e= .returned (.int .i64 (Lib.indexByte s.data.toList 0))/\w=w':=by
 go_enter Tryz.func189,Tryz.ntmps189;go_wp2;rw[run_callFunc_extern Tryz.func239 (by kernel_rfl) (by kernel_rfl) (by kernel_rfl) (e:=Extern.BytealgIndexByte.indexByte) (by kernel_rfl),Lib.run_indexByteString s 0 w];simp only[Result.andThen];rw[Oper.upon_value];go_wp2;go_ret;exact⟨rfl,rfl⟩
theorem eh (s:ByteArray)(wd:Int)(w:World) :
 Calls Tryz.prog 246 #[.string s,.int .i64 wd] w fun e w'=>e= .returned (.int .i64 (eT (ad s) wd))/\w=w':=by
 have hl:=ah s;by_cases h1:wd<1\/256<wd
 ·have hv:=kK h1;have he:eT (ad s) wd=2:=by unfold eT;rw[if_pos h1]
  rw[he];clear h1 he;go_enter Tryz.func246,Tryz.ntmps246;go_wp2_with (go_at_call 228;refine(dR _ _).mono ?_;rintro e w' ⟨rfl,rfl⟩);go_ret;exact⟨rfl,rfl⟩
 ·have hv:=jU (n:=wd) (by omega) (by omega);obtain⟨k,HK⟩:=named (Lib.indexByte s.data.toList 0);have hk:=uh s;rw[<- HK.out]at hk;by_cases h2: (0:Int)∈ad s
  ·have hp:=hk.2 h2;have he:eT (ad s) wd=6:=by unfold eT;rw[if_neg h1,if_pos h2]
   rw[he];clear h1 he hk h2;go_enter Tryz.func246,Tryz.ntmps246;go_wp2_with (first| (go_at_call 228;refine(dR _ _).mono ?_;rintro e w' ⟨rfl,rfl⟩) | (go_at_call 189;refine(pG _ _).mono ?_;rintro e w' ⟨rfl,rfl⟩;rw[<- HK.out]));go_ret;exact⟨rfl,rfl⟩
  ·have hp:¬0<=k:=fun h=>h2 (hk.1 h);by_cases h3:wd<s.size
   ·have he:eT (ad s) wd=7:=by unfold eT;rw[if_neg h1,if_neg h2,if_pos (by omega)]
    rw[he];clear h1 he hk h2 hl;go_enter Tryz.func246,Tryz.ntmps246;go_wp2_with (first| (go_at_call 228;refine(dR _ _).mono ?_;rintro e w' ⟨rfl,rfl⟩) | (go_at_call 189;refine(pG _ _).mono ?_;rintro e w' ⟨rfl,rfl⟩;rw[<- HK.out]));go_ret;exact⟨rfl,rfl⟩
   ·have he:eT (ad s) wd=0:=by unfold eT;rw[if_neg h1,if_neg h2,if_neg (by omega)]
    rw[he];clear h1 he hk h2 hl;go_enter Tryz.func246,Tryz.ntmps246;go_wp2_with (first| (go_at_call 228;refine(dR _ _).mono ?_;rintro e w' ⟨rfl,rfl⟩) | (go_at_call 189;refine(pG _ _).mono ?_;rintro e w' ⟨rfl,rfl⟩;rw[<- HK.out]));go_ret;exact⟨rfl,rfl⟩
theorem pJ (m:Nat) : (madeCells (Value.int .u8 0).cells (m*1)).toList= (List.replicate m (0:Int)).map (.int .u8) :=by
 apply List.ext_getElem?;intro i;by_cases h:i<m<;>simp[madeCells,Value.cells,h,Nat.mod_one]
theorem Tryz.kS: (Tryz.prog.info? 5).map (fun i=> (i.zero,i.size,i.bytes)) =some (some (.int .u8 0),1,1) :=by kernel_rfl
theorem ud (s:ByteArray)(wd:Int)(w:World)(h: (eT (ad s) wd !=0) =true) :
 Calls Tryz.prog 224 #[.string s,.int .i64 wd] w fun e w'=>e= .returned (.tuple #[.slice none 0 0,.int .i64 (eT (ad s) wd)])/\w=w':=by
 obtain⟨E,HE⟩:=named (eT (ad s) wd);rw[<- HE.out]at h⊢;go_enter Tryz.func224,Tryz.ntmps224;go_wp2_with (go_at_call 246;refine(eh _ _ _).mono ?_;rintro e w' ⟨rfl,rfl⟩;rw[<- HE.out]);go_ret2;exact⟨rfl,rfl⟩
theorem pC (s:ByteArray)(k:Nat)(w:World)(h:eT (ad s) k=0) :
 Calls Tryz.prog 224 #[.string s,.int .i64 k] w (wG (bF (ad s) k) k 0 w) :=by
 obtain⟨h1,h2,_,h4⟩:=fv.1 h;rw[ah]at h4;have HN:=aa h;clear h;obtain⟨i0,HI⟩:=dx Tryz.kS;go_enter Tryz.func224,Tryz.ntmps224;go_wp2_with (first| (go_at_call 246;refine(eh _ _ _).mono ?_;rintro e w' ⟨rfl,rfl⟩;rw[HN.out]) | (at_make;refine wpList_make_full _ rfl _ _ 25 rfl w.heap.size 5 i0 (.int .u8 0) 1 Tryz.underlying25 HI.out.1 HI.out.2.1 HI.out.2.2.1 .i64 .i64 _ _ k rfl rfl rfl rfl (by rw[HI.out.2.2.2];omega) (by unfold maxLen;omega) aj ?_;intro w1 hown1 hgrow1;rw[pJ]at hown1) | (refine ja rfl _ _ 25 9 rfl w.heap.size 5 i0 Tryz.underlying25 HI w.heap.size k k (List.replicate k 0) rfl hown1 s rfl (by omega) ?_;intro w2 hown2 hb2));go_ret2;have hb1:Below w.heap.size w w1:=au.grown hgrow1 aj (fun _ h=>by cases h);have e:ad s++List.drop s.size (List.replicate k 0) =bF (ad s) k:=by unfold bF;rw[List.drop_replicate,ah]
 rw[e]at hown2;exact⟨_,_,rfl,.bG hown2 (tY _ _ (cG s)),(ig hown2).2,hb1.trans hb2,aj,by unfold maxLen;omega⟩
theorem sH (s:ByteArray)(k:Nat)(w:World)(h:eT (ad s) k=0) :
 Calls Tryz.prog 224 #[.string s,.int .i64 k] w (fW (bF (ad s) k) k 0 w) :=
 (pC s k w h).mono fun _ _ h=>h.ret
end Cst
namespace Ust
open Go.RowKit
open Oct Cst gR
theorem vw (T:Int)(w:World) :Calls Tryz.prog 107 #[.int .u8 T] w fun e w'=>e= .returned (.bool (decide (known T)))/\w=w':=by
 by_cases h:known T
 ·rw[decide_eq_true h];rcases h with rfl|rfl|rfl|rfl|rfl
  all_goals
   go_enter Tryz.func107,Tryz.ntmps107;go_wp2;go_ret;exact⟨rfl,rfl⟩
 ·rw[decide_eq_false h];obtain⟨h1,h2,h3,h4,h5⟩:=oD h;clear h;go_enter Tryz.func107,Tryz.ntmps107;go_wp2;go_ret;exact⟨rfl,rfl⟩
theorem fY (s:ByteArray)(wd:Int)(k:Nat)(w:World)(hk:wd= (k:Int)) :
 Calls Tryz.prog 198 #[.string s,.int .i64 wd] w fun e w'=>e= .returned (.int .i64 (eT (ad s) wd))/\Below w.heap.size w w':=by
 by_cases h:eT (ad s) wd=0
 ·have HF:=aa (Cst.pC s k w (hk▸h));rw[<- hk]at HF;rw[h];clear h hk;go_enter Tryz.func198,Tryz.ntmps198;go_wp2_with fail;refine HF.out.mono ?_;rintro e w1 ⟨b,c,rfl,_,_,(B:Hid _),_,_⟩;go_wp2;go_ret;exact⟨rfl,B.out⟩
 ·have HF:=aa (Cst.ud s wd w (by simp[h]));obtain⟨E,HE⟩:=named (eT (ad s) wd);rw[<- HE.out]at HF⊢;clear h hk;go_enter Tryz.func198,Tryz.ntmps198;go_wp2_with fail;refine HF.out.mono ?_;rintro e w1 ⟨rfl,rfl⟩;go_wp2;go_ret;exact⟨rfl,au⟩
theorem eh (T:Int)(nm pf lk:ByteArray)(md sz:Int)(w:World)(hn:nm.size<=maxLen)(hp:pf.size<=maxLen)(hk:lk.size<=maxLen)(_hT:0<=T/\T<=255) :
 Calls Tryz.prog 148 #[.agg (bu T nm pf lk md sz).toArray] w fun e w'=>e= .returned (.int .i64 (iN T nm pf lk md sz))/\Below w.heap.size w w':=by
 clear _hT;obtain⟨kb,hkb⟩:=named (decide (known T));obtain⟨e1,he1⟩:=named (eT (ad nm) 100);obtain⟨e2,he2⟩:=named (eT (ad lk) 100);obtain⟨e3,he3⟩:=named (eT (ad pf) 155)
 have hck:iN T nm pf lk md sz=if kb=false then 8 else if e1≠0 then e1 else if e2≠0 then e2 else if e3≠0 then e3 else if md<0\/4095<md then 16 else if sz<0\/8589934591<sz then 3 else 0:=by
  rw[hkb.out,he1.out,he2.out,he3.out];unfold iN;simp only[decide_eq_false_iff_not]
 obtain⟨R,hR⟩:=named (iN T nm pf lk md sz);have HR:Hid (R=if kb=false then 8 else if e1≠0 then e1 else if e2≠0 then e2 else if e3≠0 then e3 else if md<0\/4095<md then 16 else if sz<0\/8589934591<sz then 3 else 0) :=by show _=_;rw[hR.out];exact hck
 rw[<- hR.out];clear hck hR;have HN:=aa hn;have HP:=aa hp;have HK:=aa hk;clear hn hp hk;go_enter Tryz.func148,Tryz.ntmps148;go_wp2_with (first| (refine af rfl 130 _ rfl (bu T nm pf lk md sz) rfl ?_;intro w1 h1 b1;have H1:=aa h1;have B1:=aa b1;have c0:=h1.get 0 rfl;clear h1 b1));refine(vw T w1).mono ?_;rintro e w2 ⟨rfl,rfl⟩;rw[<- hkb.out]
 cases kb with
 |false=>
  go_wp2_with fail;go_ret;exact⟨by have hr:=HR.out;simp at hr;subst hr;rfl,B1.out⟩
 |true=>
  have c1:=H1.out.get 1 rfl;clear c0;go_wp2_with fail;refine(fY nm 100 100 w1 rfl).mono ?_;rintro e w2 ⟨rfl,b2⟩;rw[<- he1.out];have H2:=aa (H1.out.below b2 H1.out.lt);have B2:=aa (B1.out.trans (b2.mono B1.out.size));clear b2 c1;by_cases z1:e1=0
  ·subst z1;have c3:=H2.out.get 3 rfl;go_wp2_with fail;refine(fY lk 100 100 w2 rfl).mono ?_;rintro e w3 ⟨rfl,b3⟩;rw[<- he2.out];have H3:=aa (H2.out.below b3 H2.out.lt);have B3:=aa (B2.out.trans (b3.mono B2.out.size));clear b3 c3;by_cases z2:e2=0
   ·subst z2;have c2:=H3.out.get 2 rfl;go_wp2_with fail;refine(fY pf 155 155 w3 rfl).mono ?_;rintro e w4 ⟨rfl,b4⟩;rw[<- he3.out];have H4:=aa (H3.out.below b4 H3.out.lt);have B4:=aa (B3.out.trans (b4.mono B3.out.size));clear b4 c2;by_cases z3:e3=0
    ·subst z3;have c4:=H4.out.get 4 rfl;have c5:=H4.out.get 5 rfl;by_cases m0:md<0
     ·go_wp2_with fail;go_ret;exact⟨by have hr:=HR.out;simp[m0]at hr;subst hr;rfl,B4.out⟩
     ·by_cases m1:4095<md
      ·go_wp2_with fail;go_ret;exact⟨by have hr:=HR.out;simp[m1]at hr;subst hr;rfl,B4.out⟩
      ·by_cases s0:sz<0
       ·go_wp2_with fail;go_ret;exact⟨by have hr:=HR.out;simp at hr;rw[if_neg (by omega),if_pos (.inl s0)]at hr;subst hr;rfl,B4.out⟩
       ·by_cases s1:8589934591<sz
        ·go_wp2_with fail;go_ret;exact⟨by have hr:=HR.out;simp at hr;rw[if_neg (by omega),if_pos (.inr s1)]at hr;subst hr;rfl,B4.out⟩
        ·go_wp2_with fail;go_ret;exact⟨by have hr:=HR.out;simp at hr;rw[if_neg (by omega),if_neg (by omega)]at hr;subst hr;rfl,B4.out⟩
    ·have n3: (e3 !=0) =true:=by simp[z3]
     go_wp2_with fail;go_ret;exact⟨by have hr:=HR.out;simp[z3]at hr;subst hr;rfl,B4.out⟩
   ·have n2: (e2 !=0) =true:=by simp[z2]
    go_wp2_with fail;go_ret;exact⟨by have hr:=HR.out;simp[z2]at hr;subst hr;rfl,B3.out⟩
  ·have n1: (e1 !=0) =true:=by simp[z1]
   go_wp2_with fail;go_ret;exact⟨by have hr:=HR.out;simp[z1]at hr;subst hr;rfl,B2.out⟩
end Ust
section
open Go.RowKit
def wA (w:World)(base:Nat)(v:Value)(zs:List Int) :Prop:=
 ∃b cap,v= .slice (some ⟨b,0,none⟩) zs.length cap/\base<=b/\b<w.heap.size/\zs.length<=cap/\cap<=maxLen/\aO w b 0 zs/\
  ∀i,i<cap-> (w.cell? ⟨b,i,none⟩).isSome=true/\w.frozen? ⟨b,i,none⟩=false
theorem wA.bytes {w:World}{base:Nat}{v:Value}{zs:List Int}(h:wA w base v zs) :∃b cap,v= .slice (some ⟨b,0,none⟩) zs.length cap/\aO w b 0 zs/\b<w.heap.size:=by
 obtain⟨b,cap,h1,_,h3,_,_,h6,_⟩:=h;exact⟨b,cap,h1,h6,h3⟩
theorem wA.alloc {w:World}{base:Nat}{v:Value}{zs:List Int}(h:wA w base v zs)(o:Obj) :wA (w.alloc o) base v zs:=by
 obtain⟨b,cap,h1,h2,h3,h4,h5,h6,h7⟩:=h;have hb:Below (b+1) w (w.alloc o) :=au.alloc (by omega) o;refine⟨b,cap,h1,h2,Nat.lt_of_lt_of_le h3 hb.size,h4,h5,h6.below hb (Nat.lt_succ_self _),fun i hi=>?_⟩;rw[World.cell?_of_block (w:=w) (w':=w.alloc o) (a:=⟨b,i,none⟩) (hb.block b (Nat.lt_succ_self _)),World.frozen?_of_block (w:=w) (w':=w.alloc o) (a:=⟨b,i,none⟩) (hb.block b (Nat.lt_succ_self _))];exact h7 i hi
theorem oe {P:Program}(w:World){src e dst:TypeId}(hs:P.underlying src=some .string)(hd:P.underlying dst=some (.slice e))(he:P.underlying e=some (.int .u8))(s:ByteArray)(hm:s.size<=maxLen) :
 ∃v w',(convert src dst (.string s)).run P w= .ok v w'/\wA w' w.heap.size v (ad s)/\Below w.heap.size w w':=by
 have hrun:=run_bytes_of_string (P:=P) w src dst e s hs hd he;have hge:=grownCap_ge w s.size 0 e;have hcm:=grownCap_le_maxLen w s.size 0 e hm
 have hbs: (bytesRow s (grownCap w s.size 0 e)).size=grownCap w s.size 0 e:=by
  have h0:s.data.size=s.size:=rfl;simp[bytesRow,h0];omega
 refine⟨_,_,hrun,⟨w.heap.size,grownCap w s.size 0 e,by rw[ah],aj,by simp,by rw[ah];exact hge,hcm,⟨fun i hi=>?_,cG s⟩,fun i hi=>⟨?_,?_⟩⟩,au.drew.alloc aj _⟩
 ·have hi':i<s.data.size:=by rw[ah]at hi;exact hi
  have:=World.cell?_alloc_mark w.drew (bytesRow s (grownCap w s.size 0 e)) e ((bytesRow s (grownCap w s.size 0 e)).size,(bytesRow s (grownCap w s.size 0 e)).size+1) i;rw[Nat.zero_add];refine Eq.trans this ?_;rw[bytesRow_at s _ i hi'];have e:s.data[i]? =some s.data[i] :=Array.getElem?_eq_getElem hi';simp[ad,List.getD_eq_getElem?_getD,e]
 ·have:=World.cell?_alloc_mark w.drew (bytesRow s (grownCap w s.size 0 e)) e ((bytesRow s (grownCap w s.size 0 e)).size,(bytesRow s (grownCap w s.size 0 e)).size+1) i;refine Eq.trans (congrArg Option.isSome this) ?_;simp[hbs,hi]
 ·refine Eq.trans (World.frozen?_alloc_mark w.drew _ e _ _ i) ?_;simp[hbs];omega
theorem aO.append {w:World}{b:Nat}{zs ys:List Int}(h:aO w b 0 zs)(hy:∀j,j<ys.length->w.cell? ⟨b,zs.length+j,none⟩=some (.int .u8 (ys.getD j 0)))(hb:∀z∈ys,0<=z/\z<=255) :aO w b 0 (zs++ys) :=by
 refine⟨fun i hi=>?_,fun z hz=> (List.mem_append.1 hz).elim (h.2 z) (hb z)⟩;rw[Nat.zero_add,List.getD_eq_getElem?_getD,List.getElem?_append];rw[List.length_append]at hi
 split
 ·rename_i hlt;have:=h.1 i hlt
  rwa [Nat.zero_add,List.getD_eq_getElem?_getD]at this
 ·rename_i hlt;have:=hy (i- zs.length) (by omega)
  rwa [show zs.length+ (i- zs.length) =i by omega,List.getD_eq_getElem?_getD]at this
theorem gT {B b:Nat}{a:World}(hb:B<=b) :∀(vs:List Value) (o:Nat) (w:World),Below B a w->Below B a (w.setCells b o vs)
 | [],_,_,h=>h
 |v::r,o,w,h=>gT hb r (o+1) _ (h.setCell (by exact hb) v)
theorem fP (b:Nat) :∀(vs:List Value) (o:Nat) (w:World),(w.setCells b o vs).heap.size=w.heap.size
 | [],_,_=>rfl
 |v::r,o,w=>by rw[World.setCells,fP b r];simp[World.setCell]
theorem nv {P:Program}(w:World)(base:Nat)(t ty e:TypeId)(i:TypeInfo)(ht:P.underlying t=some (.slice e))(hi:P.info? e=some i)(hz:i.zero=some (.int .u8 0))(hsz:i.size=1)(hby:i.bytes=1)
 (v:Value)(zs:List Int)(hv:wA w base v zs)(a:Option Addr)(m c:Nat)(ys:List Int)(hy:BytesIn w a ys)(hl:ys.length=m)(h47:zs.length+m<=140737488355328)(hbase:base<=w.heap.size) :
 ∃v' w',(Builtin.append_ #[t,t] ty #[v,.slice a m c]).run P w= .ok v' w'/\wA w' base v' (zs++ys)/\Below base w w':=by
 obtain⟨b,cap,rfl,hbb,hbs,hlc,hcm,hrow,hcells⟩:=hv;rcases hy with hy|⟨b',off,rfl,_,hy⟩
 ·subst hy;obtain rfl:m=0:=hl.symm;refine⟨.slice (some ⟨b,0,none⟩) zs.length cap,w,?_,⟨b,cap,by simp,hbb,hbs,by simpa using hlc,hcm,by simpa using hrow,hcells⟩,au⟩;have hll:∀x:Addr,(loadCells x 0).run P w= .ok #[] w:=fun x=>by simp[loadCells,loadCellsFrom]
  cases a<;>simp[Builtin.append_,run_underlying ht,sizeOf,typeInfo,hi,Builtin.lenOf,Builtin.firstCells,hlc,storeCells,hll]
 ·have hnews:=hy.news;have hyl: (ys.map (Value.int .u8)).length=m*i.size:=by rw[List.length_map,hl,hsz,Nat.mul_one]
  by_cases hroom:zs.length+m<=cap
  ·have hst:=run_storeCells_cells (P:=P) b zs.length (ys.map (Value.int .u8)) 0 w (by
    intro j hj;rw[List.length_map]at hj;exact(hcells _ (by omega)).1) (by
    intro j hj;rw[List.length_map]at hj;exact(hcells _ (by omega)).2) (eK _ _)
   have hf:=run_firstCells_some (P:=P) w i.size m ⟨b',off,none⟩ m c (ys.map (Value.int .u8)) hyl hnews;refine⟨.slice (some ⟨b,0,none⟩) (zs.length+m) cap,w.setCells b zs.length (ys.map (Value.int .u8)),?_,⟨b,cap,by rw[List.length_append,hl],hbb,by rw[fP];exact hbs,by rw[List.length_append];omega,hcm,?_,fun k hk=>⟨?_,?_⟩⟩,gT hbb _ _ _ au⟩
   ·rw[Nat.add_zero]at hst;rw[hsz]at hf;simp[Builtin.append_,run_underlying ht,sizeOf,typeInfo,hi,hsz,Builtin.lenOf,hroom,hf,Addr.add_lit,hst,Result.andThen]
   ·refine aO.append ⟨fun k hk=>?_,hrow.2⟩ (fun j hj=>?_) hy.2
    ·rw[World.cell?_setCells_out b _ _ _ _ (fun _ _=> .inl (by simpa using hk))];exact hrow.1 k hk
    ·have:=World.cell?_setCells_in b (ys.map (Value.int .u8)) zs.length w (fun k hk=>by
      rw[List.length_map]at hk;exact(hcells _ (by omega)).1) j (by rw[List.length_map];exact hj)
     rw[this,List.getElem_map,List.getD_eq_getElem?_getD,List.getElem?_eq_getElem hj];rfl
   ·by_cases hin:zs.length<=k/\k<zs.length+m
    ·have:=World.cell?_setCells_in b (ys.map (Value.int .u8)) zs.length w (fun k hk=>by
      rw[List.length_map]at hk;exact(hcells _ (by omega)).1) (k- zs.length) (by rw[List.length_map];omega)
     rw[show zs.length+ (k- zs.length) =k by omega]at this;rw[this];rfl
    ·rw[World.cell?_setCells_out b _ _ _ _ (fun _ _=>by rw[List.length_map];show k<zs.length\/_<=k;omega)];exact(hcells k hk).1
   ·rw[World.frozen?_setCells];exact(hcells k hk).2
  ·have hgr:=run_append_grow (P:=P) w t ty e i (.int .u8 0) ht hi hz ⟨b,0,none⟩ zs.length cap (zs.map (Value.int .u8)) (by rw[List.length_map,hsz,Nat.mul_one]) hrow.news ⟨b',off,none⟩ m c (ys.map (Value.int .u8)) hyl hnews (by omega) (by omega)
    (by rw[hby];exact growslice_fits (need:=zs.length+m) (old:=cap) (by omega) (by omega))
   have hge:=grownCap_ge w (zs.length+m) cap e;have hcm':=grownCap_le_maxLen w (zs.length+m) cap e (by unfold maxLen;omega);refine⟨_,_,hgr,⟨w.heap.size,grownCap w (zs.length+m) cap e,by rw[List.length_append,hl],hbase,by simp,by rw[List.length_append,hl];exact hge,hcm',⟨fun k hk=>?_,fun z hz=> (List.mem_append.1 hz).elim (hrow.2 z) (hy.2 z)⟩,fun k hk=>⟨?_,?_⟩⟩,au.drew.alloc hbase _⟩
   ·rw[Nat.zero_add,World.cell?_alloc_at (w:=w.drew) _ _ w.heap.size k rfl,Array.getElem?_append_left (by simpa using hk),List.append_toArray,List.getElem?_toArray,<- List.map_append,List.getElem?_map,List.getElem?_eq_getElem hk,List.getD_eq_getElem?_getD,List.getElem?_eq_getElem hk];rfl
   ·rw[World.cell?_alloc_at (w:=w.drew) _ _ w.heap.size k rfl,Array.getElem?_eq_getElem (by simp[size_zeroCells,Value.cells];omega)];rfl
   ·exact World.frozen?_alloc_at (w:=w.drew) _ _ _ _ rfl
theorem jV {P:Program}{w:World}{ops:Array Oper}{rest:List Oper}{o:Oper}{a:Act}{Q:Exit->Act->World->Prop}(hgd:o.guard=none)(s x:Operand)(t:TypeId)
 (ho:o.op= .call {callee:= .builtin .append,args:= #[s,x],argTypes:= #[t,t]})
 (base:Nat)(e:TypeId)(i0:TypeInfo)(hT:P.underlying t=some (.slice e))(hI:Hid (P.info? e=some i0/\i0.zero=some (.int .u8 0)/\i0.size=1/\i0.bytes=1))
 (v:Value)(zs:List Int)(hs:a.eval s=v)(hown:wA w base v zs)
 (b:Option Addr)(m c:Nat)(ys:List Int)(hx:a.eval x= .slice b m c)(hy:BytesIn w b ys)(hl:ys.length=m)(h47:zs.length+m<=140737488355328)(hbase:base<=w.heap.size)
 (K:∀v' w',wA w' base v' (zs++ys)->Below base w w'->wpList P ops Q rest (a.put o.dst v') w') :wpList P ops Q (o::rest) a w:=by
 obtain⟨v',w',hrun,h1,h2⟩:=nv (P:=P) w base t o.type e i0 hT hI.out.1 hI.out.2.1 hI.out.2.2.1 hI.out.2.2.2 v zs hown b m c ys hy hl h47 hbase;refine wpList_plain hgd fun K' hK=>?_;unfold Oper.wp;simp[execOp,ho,resolve,invoke,builtin,hs,hx,hrun,Result.andThen];exact hK _ _ (K _ _ h1 h2)
end
namespace Cst
open Go.RowKit
theorem tG (s:ByteArray)(j:Nat)(h:j<s.size) : (ad s)[j]? =some (s[j].toNat:Int) :=by
 rw[cn,List.getElem?_map,Array.getElem?_toList];have:s.data[j]? =some s[j] :=Array.getElem?_eq_getElem h;rw[this];rfl
theorem Dr (s:ByteArray)(wd:Int)(w:World)(h:wd<1\/256<wd) :
 Calls Tryz.prog 178 #[.string s,.int .i64 wd] w fun e w'=>e= .returned (.tuple #[.slice none 0 0,.int .i64 2])/\w=w':=by
 by_cases h1:wd<1
 ·clear h;go_enter Tryz.func178,Tryz.ntmps178;go_wp2;go_ret2;exact⟨rfl,rfl⟩
 ·have h2:256<wd:=by omega
  clear h;go_enter Tryz.func178,Tryz.ntmps178;go_wp2;go_ret2;exact⟨rfl,rfl⟩
theorem yD (s:ByteArray)(wd:Int)(w:World)(h1:1<=wd)(h2:wd<=256)(hs:s.size<=maxLen)(hz: (0:Int)∈ad s) :
 Calls Tryz.prog 178 #[.string s,.int .i64 wd] w fun e w'=>e= .returned (.tuple #[.slice none 0 0,.int .i64 6])/\w=w':=by
 unfold maxLen at hs;have HZ:=aa hz;clear hz;go_enter Tryz.func178,Tryz.ntmps178;go_wp2;go_loop [6] (fun i=>∃j:Nat,j<=s.size/\i= .int .i64 j/\ (0:Int)∉(ad s).take j) (fun i=>s.size+1- (intOf i).toNat)
 case atStart=>exact⟨0,Nat.zero_le _,rfl,by simp⟩
 case round=>
  obtain⟨j,hj,rfl,(HJ:Hid _)⟩:=hrel;by_cases hlt:j<s.size
  ·have HB:=aa (tG s j hlt);by_cases hb: ((s[j].toNat:Int) ==0) =true
   ·go_wp2;go_ret2;exact⟨rfl,rfl⟩
   ·have hb': ((s[j].toNat:Int) ==0) =false:=by simpa using hb
    clear hb
    have HN:Hid ((0:Int)∉(ad s).take (j+1)) :=by
     show(0:Int)∉_;rw[gK (by rw[ah];exact hlt),List.getD_eq_getElem?_getD,HB.out];intro h;rcases List.mem_append.1 h with h|h
     ·exact HJ.out h
     ·have e: (0:Int) = (s[j].toNat:Int) :=by simpa using h
      rw[<- e]at hb';simp at hb'
    go_wp2
    go_round
    case rel=>exact⟨j+1,by omega,by go_num,HN.out⟩
    case measure=>simp[intOf];omega
  ·exfalso;have:=HJ.out;rw[List.take_of_length_le (by rw[ah];omega)]at this;exact this HZ.out
theorem xP (s:ByteArray)(hz: (0:Int)∉ad s) :∀j (h:j<s.size),((s[j].toNat:Int) ==0) =false:=by
 intro j h;have hb:=tG s j h;by_cases hc: (s[j].toNat:Int) =0
 ·exfalso;apply hz;rw[hc]at hb;exact List.mem_of_getElem? hb
 ·simpa using hc
theorem vM (s:ByteArray)(k:Int)(w:World)(h1:1<=k)(h2:k<=256)(hs:s.size<=maxLen)(hz: (0:Int)∉ad s)(hk:k<s.size) :
 Calls Tryz.prog 178 #[.string s,.int .i64 k] w fun e w'=>e= .returned (.tuple #[.slice none 0 0,.int .i64 7])/\w=w':=by
 unfold maxLen at hs;have HNE:=aa (xP s hz);clear hz;go_enter Tryz.func178,Tryz.ntmps178;go_wp2;go_loop [6] (fun i=>∃j:Nat,j<=s.size/\i= .int .i64 j) (fun i=>s.size+1- (intOf i).toNat)
 case atStart=>exact⟨0,Nat.zero_le _,rfl⟩
 case round=>
  obtain⟨j,hj,rfl⟩:=hrel;by_cases hlt:j<s.size
  ·have hb':=HNE.out j hlt;go_wp2
   go_round
   case rel=>exact⟨j+1,by omega,by go_num⟩
   case measure=>simp[intOf];omega
  ·obtain rfl:j=s.size:=by omega
   go_wp2;go_ret2;exact⟨rfl,rfl⟩
theorem jN (s:ByteArray)(k:Nat)(w:World)(h1: (1:Int)<=k)(h2: (k:Int)<=256)(hz: (0:Int)∉ad s)(hk:s.size<=k) :
 Calls Tryz.prog 178 #[.string s,.int .i64 k] w (fW (bF (ad s) k) k 0 w) :=by
 have HNE:=aa (xP s hz);clear hz;obtain⟨i0,HI⟩:=dx Tryz.kS;obtain⟨v0,w2,hrun,hbuf,hb2⟩:=oe (P:=Tryz.prog) w Tryz.underlying9 Tryz.underlying25 Tryz.underlying5 s (by unfold maxLen;omega);have HB:=aa hbuf;clear hbuf;have HS:=aa (ah s);go_enter Tryz.func178,Tryz.ntmps178;go_wp2;go_loop [6] (fun i=>∃j:Nat,j<=s.size/\i= .int .i64 j) (fun i=>s.size+1- (intOf i).toNat)
 case atStart=>exact⟨0,Nat.zero_le _,rfl⟩
 case round=>
  obtain⟨j,hj,rfl⟩:=hrel;by_cases hlt:j<s.size
  ·have hb':=HNE.out j hlt;go_wp2
   go_round
   case rel=>exact⟨j+1,by omega,by go_num⟩
   case measure=>simp[intOf];omega
  ·obtain rfl:j=s.size:=by omega
   have hk':¬(k:Int) <s.size:=by omega
   go_wp2;go_loopw [7] (fun v wr=>∃j:Nat,s.size+j<=k/\wA wr w.heap.size v (ad s++List.replicate j 0)/\Below w.heap.size w wr/\∃b cap,v= .slice (some ⟨b,0,none⟩) (s.size+j) cap) (fun v _=>match v with| .slice _ n _=>k+1- n|_=>0)
   case atStart=>
    refine⟨0,hk,by simpa using HB.out,hb2,?_⟩;obtain⟨b,cap,e,_⟩:=HB.out;rw[HS.out]at e;exact⟨b,cap,e⟩
   case round=>
    obtain⟨j,hj,hbuf,hbel,b,cap,rfl⟩:=hrel;have HBU:=aa hbuf;clear hbuf;by_cases hlt:s.size+j<k
    ·have hlt': ((s.size+j:Nat) :Int) <k:=by omega
     have hb3:=HBU.out.alloc (.cells #[.int .u8 0] 5);have h1b:=BytesIn.AR wr 0 5 (by omega) (by omega);go_wp2_with (first| (at_builtin;refine jV rfl _ _ 25 rfl w.heap.size 5 i0 Tryz.underlying25 HI _ _ rfl hb3 _ 1 1 [0] rfl h1b rfl (by simp[HS.out];omega) (Nat.le_trans hbel.size (by simp)) ?_;intro v' w3 hbuf3 hbel3));go_roundw
     case rel=>
      refine⟨j+1,by omega,?_,(hbel.alloc hbel.size _).trans hbel3,?_⟩
      ·rw[List.append_assoc,<- List.replicate_succ']at hbuf3;exact hbuf3
      ·obtain⟨b,cap,e,_⟩:=hbuf3;rw[e];exact⟨b,cap,by simp[HS.out]⟩
     case measure=>
      obtain⟨b,cap,e,_⟩:=hbuf3;rw[e];simp[HS.out];omega
    ·have hlt':¬((s.size+j:Nat) :Int) <k:=by omega
     go_wp2;go_ret2;obtain rfl:s.size+j=k:=by omega
     obtain⟨b',cap',e,hrow,hlt3⟩:=HBU.out.bytes;simp only[Value.slice.injEq,Option.some.injEq,Addr.mk.injEq,and_true]at e;obtain⟨rfl,_⟩:=e;refine⟨_,_,rfl,?_,hlt3,hbel⟩;unfold bF;rw[HS.out,Nat.add_sub_cancel_left];exact hrow
end Cst
end Go.Proofs.YtcjagakckffkiaaGreatDoor
