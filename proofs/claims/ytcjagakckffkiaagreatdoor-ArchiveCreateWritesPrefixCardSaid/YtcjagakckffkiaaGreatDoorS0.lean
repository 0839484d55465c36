import Derived.WalkKit
import Derived.WalkSpells
import Derived.WalkLawsBesides
import Derived.Lib.Hide
import Derived.Deep.DeepMust
import Derived.OpenShut
import Derived.Lib.IndexLaws
import Derived.Lib.BytesEntry
import Derived.Laws.OwnMore
set_option maxHeartbeats 16000000
set_option maxRecDepth 100000
namespace Go.Proofs.YtcjagakckffkiaaGreatDoor
section
open Go.RowKit
theorem named {α:Sort _}(x:α) :∃y,Hid (y=x) :=⟨x,Eq.refl x⟩
def aO (w:World)(b off:Nat)(zs:List Int) :Prop:=
 (∀i,i<zs.length->w.cell? ⟨b,off+i,none⟩=some (.int .u8 (zs.getD i 0)))/\∀z∈zs,0<=z/\z<=255
theorem aO.get {w:World}{b off:Nat}{zs:List Int}(h:aO w b off zs)(i:Nat)(hi:i<zs.length) :
 ∃d:Int,d=zs.getD i 0/\0<=d/\d<=255/\w.cell? ⟨b,off+i,none⟩=some (.int .u8 d) :=
 ⟨_,rfl,(h.2 _ (by rw[List.getD_eq_getElem?_getD,List.getElem?_eq_getElem hi];exact List.getElem_mem hi)).1,
  (h.2 _ (by rw[List.getD_eq_getElem?_getD,List.getElem?_eq_getElem hi];exact List.getElem_mem hi)).2,h.1 i hi⟩
theorem aO.below {w w':World}{B b off:Nat}{zs:List Int}(h:aO w b off zs)(hb:Below B w w')(hB:b<B) :aO w' b off zs:=
 ⟨fun i hi=> (hb.cell (p:=⟨b,off+i,none⟩) hB).trans (h.1 i hi),h.2⟩
theorem aO.bG {w:World}{base g n cap:Nat}{e:TypeId}{zs:List Int}(h:w.ownsRow base e 1 (.slice (some ⟨g,0,none⟩) n cap) n (zs.map (.int .u8)))
 (hz:∀z∈zs,0<=z/\z<=255) :aO w g 0 zs:=by
 refine⟨fun i hi=>?_,hz⟩;have hl:=h.1;rw[List.length_map]at hl;rw[Nat.zero_add,h.cellAt i (by omega),List.getElem?_map,List.getElem?_eq_getElem hi,List.getD_eq_getElem?_getD,List.getElem?_eq_getElem hi];rfl
theorem ig {w:World}{base g n cap:Nat}{e:TypeId}{xs:List Value}(h:w.ownsRow base e 1 (.slice (some ⟨g,0,none⟩) n cap) n xs) :base<=g/\g<w.heap.size:=by
 rcases h.2 with⟨h',_⟩|⟨g',cap',cur,hv,hb',hh,r⟩
 ·simp at h'
 ·simp only[Value.slice.injEq,Option.some.injEq,Addr.mk.injEq,and_true,true_and]at hv;obtain⟨rfl,rfl⟩:=hv;refine⟨hb',?_⟩;rcases Nat.lt_or_ge g w.heap.size with h|h
  ·exact h
  ·rw[Array.getElem?_eq_none h]at hh;cases hh
theorem dM {P:Program}{w:World}{src e dst:TypeId}(hs:P.underlying src=some (.slice e))(he:P.underlying e=some (.int .u8))(hd:P.underlying dst=some .string)
 {b off:Nat}{zs:List Int}(h:aO w b off zs)(n cap:Nat)(hn:zs.length=n) :
 (convert src dst (.slice (some ⟨b,off,none⟩) n cap)).run P w= .ok (.string (strOfNums zs)) w:=by
 exact run_convert_bytes_arg w src e hs he b off n cap zs hn (fun i hi=>h.1 i (by omega)) dst hd
def ad (s:ByteArray) :List Int:=s.data.toList.map fun b=> (b.toNat:Int)
theorem ah (s:ByteArray) : (ad s).length=s.size:=by unfold ad;rw[List.length_map,Array.length_toList];rfl
theorem cG (s:ByteArray) :∀z∈ad s,0<=z/\z<=255:=by
 intro z hz;obtain⟨b,_,rfl⟩:=List.mem_map.1 hz;have:=b.toNat_lt;omega
theorem ak {zs:List Int}(h:∀z∈zs,0<=z/\z<=255) :ad (strOfNums zs) =zs:=by
 unfold ad;rw[strOfNums_data,List.map_map]
 conv=>rhs;rw[<- List.map_id zs]
 refine List.map_congr_left fun z hz=>?_;have:=h z hz;show((UInt8.ofNat z.toNat).toNat:Int) =z;rw[UInt8.toNat_ofNat'];omega
theorem fj {P:Program}(w:World){src e dst:TypeId}(hs:P.underlying src=some .string)(hd:P.underlying dst=some (.slice e))(he:P.underlying e=some (.int .u8))(s:ByteArray) :
 ∃c w',(convert src dst (.string s)).run P w= .ok (.slice (some ⟨w.heap.size,0,none⟩) s.size c) w'/\aO w' w.heap.size 0 (ad s)/\Below w.heap.size w w'/\w.heap.size<w'.heap.size:=by
 refine⟨_,_,run_bytes_of_string w src dst e s hs hd he,⟨fun i hi=>?_,cG s⟩,(Below.refl _ _).drew.alloc (Nat.le_refl _) _,by simp⟩;have hi':i<s.data.size:=by rw[ah]at hi;exact hi
 have:=World.cell?_alloc_mark w.drew (bytesRow s (grownCap w s.size 0 e)) e ((bytesRow s (grownCap w s.size 0 e)).size,(bytesRow s (grownCap w s.size 0 e)).size+1) i;rw[Nat.zero_add];refine Eq.trans this ?_;rw[bytesRow_at s _ i hi'];have e:s.data[i]? =some s.data[i] :=Array.getElem?_eq_getElem hi';simp[ad,List.getD_eq_getElem?_getD,e]
def fW (zs:List Int)(n:Nat)(r:Int)(w:World)(e:Ending)(w':World) :Prop:=
 ∃b c,e= .returned (.tuple #[.slice (some ⟨b,0,none⟩) n c,.int .i64 r])/\aO w' b 0 zs/\b<w'.heap.size/\Below w.heap.size w w'
def aX (k:IntKind)(w:World)(a:Option Addr)(len cap:Nat)(zs:List Int) :Prop:=
 zs.length=len/\len<=cap/\cap<=maxLen/\ (∀z∈zs,(Lit.int k z).wf=true)/\
 (len=0\/∃b off,a=some ⟨b,off,none⟩/\b<w.heap.size/\∀i,i<zs.length->w.cell? ⟨b,off+i,none⟩=some (.int k (zs.getD i 0)))
theorem aX.nil {k:IntKind}{w:World} :aX k w none 0 0 [] :=
 ⟨rfl,Nat.le_refl _,by unfold maxLen;omega,fun _ h=>by simp at h,.inl rfl⟩
theorem aX.mk' {k:IntKind}{w:World}{x:Addr}{len cap:Nat}{zs:List Int}(hl:len<=cap)(hm:cap<=maxLen)(hz:zs.length=cap)
 (hc:∀i,i<zs.length->w.cell? (x.add i) =some (.int k (zs.getD i 0)))(hw:∀n∈zs,(Lit.int k n).wf=true) :aX k w (some x) len cap (zs.take len) :=by
 refine⟨by rw[List.length_take];omega,hl,hm,fun z h=>hw z (List.mem_of_mem_take h),?_⟩;rcases Nat.eq_zero_or_pos len with h|h
 ·exact .inl h
 ·obtain⟨b,off,rfl,hc'⟩:=ints_at hc (by omega);refine .inr ⟨b,off,rfl,?_,fun i hi=>?_⟩
  ·have h0:=hc' 0 (by omega);rcases Nat.lt_or_ge b w.heap.size with h|h
   ·exact h
   ·rw[World.cell?]at h0;simp[Array.getElem?_eq_none h]at h0
  ·rw[List.length_take]at hi;rw[hc' i (by omega)]
   congr 2
   rw[List.getD_eq_getElem?_getD,List.getD_eq_getElem?_getD,List.getElem?_take,if_pos (by omega)]
theorem aX.row {w:World}{a:Option Addr}{len cap:Nat}{zs:List Int}(h:aX .u8 w a len cap zs)(hp:0<len) :
 ∃b off,a=some ⟨b,off,none⟩/\b<w.heap.size/\aO w b off zs:=by
 obtain⟨_,_,_,h4,h5⟩:=h;rcases h5 with h5|⟨b,off,h5,h6,h7⟩
 ·omega
 ·exact⟨b,off,h5,h6,h7,fun z hz=>bounds_u8 (h4 z hz)⟩
def BytesIn (w:World)(a:Option Addr)(zs:List Int) :Prop:=
 zs= []\/∃b off,a=some ⟨b,off,none⟩/\b<w.heap.size/\aO w b off zs
theorem aX.bytes {w:World}{a:Option Addr}{len cap:Nat}{zs:List Int}(h:aX .u8 w a len cap zs) :BytesIn w a zs:=by
 rcases Nat.eq_zero_or_pos len with h0|h0
 ·exact .inl (List.length_eq_zero_iff.1 (h.1.trans h0))
 ·exact .inr (h.row h0)
theorem BytesIn.below {w w':World}{a:Option Addr}{zs:List Int}(h:BytesIn w a zs)(hb:Below w.heap.size w w') :BytesIn w' a zs:=by
 rcases h with h|⟨b,off,h1,h2,h3⟩
 ·exact .inl h
 ·exact .inr ⟨b,off,h1,Nat.lt_of_lt_of_le h2 hb.size,h3.below hb h2⟩
theorem BytesIn.cH {w:World}{b:Nat}{zs:List Int}(h:aO w b 0 zs)(hb:b<w.heap.size) :BytesIn w (some ⟨b,0,none⟩) zs:= .inr ⟨b,0,rfl,hb,h⟩
theorem BytesIn.bG {w:World}{base g n cap:Nat}{e:TypeId}{zs:List Int}(h:w.ownsRow base e 1 (.slice (some ⟨g,0,none⟩) n cap) n (zs.map (.int .u8)))
 (hz:∀z∈zs,0<=z/\z<=255) :BytesIn w (some ⟨g,0,none⟩) zs:= .cH (.bG h hz) (ig h).2
theorem aQ {P:Program}{w:World}{src e dst:TypeId}(hs:P.underlying src=some (.slice e))(he:P.underlying e=some (.int .u8))(hd:P.underlying dst=some .string)
 {a:Option Addr}{zs:List Int}(h:BytesIn w a zs)(n cap:Nat)(hn:zs.length=n) :
 (convert src dst (.slice a n cap)).run P w= .ok (.string (strOfNums zs)) w:=by
 rcases h with h|⟨b,off,h1,_,h3⟩
 ·subst h;obtain rfl:n=0:=hn.symm
  cases a with
  |none=>exact run_convert_bytes_nil w src e hs he 0 cap dst hd
  |some x=>
   rw[run_convert_bytes_string w src dst e _ _ _ hs he hd];exact run_bytesToString w x 0 cap [] (by simpa using run_loadCells_list (P:=P) w x [] (fun j v hj=>by simp at hj))
 ·rw[h1];exact dM hs he hd h3 n cap hn
theorem vB {w:World}{base n:Nat}{e:TypeId}{v:Value}{xs:List Value}(h:w.ownsRow base e 1 v n xs)(hn:0<n) :∃g cap,v= .slice (some ⟨g,0,none⟩) n cap/\base<=g:=by
 rcases h.2 with⟨_,h'⟩|⟨g',cap',cur,hv,hb',_⟩
 ·omega
 ·exact⟨g',cap',hv,hb'⟩
theorem cO (b off j:Nat) : (⟨b,off,none⟩:Addr).add j=⟨b,off+j,none⟩:=Go.WideShapes.add_plain _ _ _
theorem aO.news {w:World}{b off:Nat}{zs:List Int}(h:aO w b off zs) :∀j u,(zs.map (Value.int .u8))[j]? =some u->w.cell? ((⟨b,off,none⟩:Addr).add j) =some u:=by
 intro j u hj
 have hl:j<zs.length:=by
  rcases Nat.lt_or_ge j zs.length with h|h
  ·exact h
  ·rw[List.getElem?_eq_none (by simpa using h)]at hj;cases hj
 rw[cO,h.1 j hl];rw[List.getElem?_map,List.getElem?_eq_getElem hl]at hj;rw[List.getD_eq_getElem?_getD,List.getElem?_eq_getElem hl];exact hj
theorem eK (k:IntKind)(zs:List Int) :∀u∈zs.map (Value.int k),u.oneCell'=true:=by
 intro u hu;obtain⟨z,_,rfl⟩:=List.mem_map.1 hu;rfl
theorem oI {w:World}{base n:Nat}{e:TypeId}{v:Value}{xs:List Value}(h:w.ownsRow base e 1 v n xs) :∀k,v.ownBlock=some k->base<=k:=by
 intro k hk;rcases h.2 with⟨h',_⟩|⟨g',cap',cur,hv,hb',_⟩
 ·rw[h']at hk;cases hk
 ·rw[hv]at hk;obtain rfl:g'=k:=by simpa [Value.ownBlock]using hk
  exact hb'
theorem bP {P:Program}{w:World}{ops:Array Oper}{rest:List Oper}{o:Oper}{a:Act}{Q:Exit->Act->World->Prop}(hgd:o.guard=none)(s x:Operand)(t:TypeId)
 (ho:o.op= .call {callee:= .builtin .append,args:= #[s,x],argTypes:= #[t,t]})
 (base:Nat)(e:TypeId)(i0:TypeInfo)(hT:P.underlying t=some (.slice e))(hI:Hid (P.info? e=some i0/\i0.zero=some (.int .u8 0)/\i0.size=1/\i0.bytes=1))
 (v:Value)(n:Nat)(zs:List Int)(hs:a.eval s=v)(hown:w.ownsRow base e 1 v n (zs.map (.int .u8)))
 (b off m c:Nat)(ys:List Int)(hx:a.eval x= .slice (some ⟨b,off,none⟩) m c)(hy:aO w b off ys)(hl:ys.length=m)(h47:n+m<=140737488355328)(hbase:base<=w.heap.size)
 (K:∀v' w',w'.ownsRow base e 1 v' (n+m) ((zs++ys).map (.int .u8))->Below base w w'->wpList P ops Q rest (a.put o.dst v') w') :wpList P ops Q (o::rest) a w:=by
 refine wpList_append_own _ hgd s x t ho base e i0 (.int .u8 0) 1 1 hT hI.out.1 hI.out.2.1 hI.out.2.2.1 hI.out.2.2.2 rfl (by decide) v n _ hs hown ⟨b,off,none⟩ m c (ys.map (.int .u8)) hx (by rw[List.length_map,hl,Nat.mul_one]) hy.news (eK _ _) (by unfold maxLen;omega) (by omega) hbase ?_;intro v' w' h1 h2 _;exact K v' w' (by rw[List.map_append];exact h1) ((Below.refl _ _).grown h2 hbase (oI hown))
def wG (zs:List Int)(n:Nat)(r:Int)(w:World)(e:Ending)(w':World) :Prop:=
 ∃b c,e= .returned (.tuple #[.slice (some ⟨b,0,none⟩) n c,.int .i64 r])/\aO w' b 0 zs/\b<w'.heap.size/\Below w.heap.size w w'/\n<=c/\c<=maxLen
theorem wG.ret {zs:List Int}{n:Nat}{r:Int}{w w':World}{e:Ending}(h:wG zs n r w e w') :fW zs n r w e w':=by
 obtain⟨b,c,h1,h2,h3,h4,_⟩:=h;exact⟨b,c,h1,h2,h3,h4⟩
theorem BytesIn.AR (w:World)(d:Int)(t:TypeId)(h0:0<=d)(h1:d<=255) :BytesIn (w.alloc (.cells #[.int .u8 d] t)) (some ⟨w.heap.size,0,none⟩) [d] :=
 .cH ⟨fun i hi=>by obtain rfl:i=0:=by simpa using hi
                   rw[World.cell?_alloc_at _ _ _ _ rfl];rfl,fun z hz=>by obtain rfl:z=_:=by simpa using hz
                                                                         exact⟨h0,h1⟩⟩ (by simp)
theorem cn (s:ByteArray) :ad s=s.data.toList.map fun b=> (b.toNat:Int) :=rfl
theorem aJ (s:ByteArray) :strOfNums (ad s) =s:=by
 apply ByteArray.ext;apply Array.ext';rw[strOfNums_data,cn,List.map_map]
 conv=>rhs;rw[<- List.map_id s.data.toList]
 exact List.map_congr_left fun b _=>by
  show UInt8.ofNat ((b.toNat:Int)).toNat=b;simp
theorem uh (s:ByteArray) :0<=Lib.indexByte s.data.toList 0↔(0:Int)∈ad s:=by
 constructor
 ·intro h;obtain⟨o,ho⟩:∃o:Nat,Lib.indexByte s.data.toList 0=o:=⟨(Lib.indexByte s.data.toList 0).toNat,by omega⟩;have h1:= (Lib.indexByte_some ho).1;rw[cn,List.mem_map];exact⟨0,List.mem_of_getElem? h1,rfl⟩
 ·intro h;rw[cn,List.mem_map]at h;obtain⟨b,hb,h0⟩:=h
  obtain rfl:b=0:=by
   apply UInt8.toNat_inj.1;have:b.toNat=0:=by omega
   simpa using this
  rcases Int.lt_or_le (Lib.indexByte s.data.toList 0) 0 with h|h
  ·exfalso;have h1:=Lib.indexByte_ge s.data.toList 0;obtain⟨k,hk⟩:=List.getElem?_of_mem hb;exact Lib.indexByte_none (c:=0) (by omega) k hk
  ·exact h
theorem dx {P:Program}{e:TypeId}(h: (P.info? e).map (fun i=> (i.zero,i.size,i.bytes)) =some (some (.int .u8 0),1,1)) :
 ∃i0,Hid (P.info? e=some i0/\i0.zero=some (.int .u8 0)/\i0.size=1/\i0.bytes=1) :=by
 cases hq:P.info? e with
 |none=>simp[hq]at h
 |some i=>simp[hq]at h;exact⟨i,rfl,h.1,h.2.1,h.2.2⟩
theorem ja {P:Program}{w:World}{ops:Array Oper}{rest:List Oper}{o:Oper}{a:Act}{Q:Exit->Act->World->Prop}(hgd:o.guard=none)(d x:Operand)(dT sT:TypeId)
 (ho:o.op= .call {callee:= .builtin .copy,args:= #[d,x],argTypes:= #[dT,sT]})
 (base:Nat)(e:TypeId)(i0:TypeInfo)(hT:P.underlying dT=some (.slice e))(hI:Hid (P.info? e=some i0/\i0.zero=some (.int .u8 0)/\i0.size=1/\i0.bytes=1))
 (g n cap:Nat)(zs:List Int)(hd:a.eval d= .slice (some ⟨g,0,none⟩) n cap)(hown:w.ownsRow base e 1 (.slice (some ⟨g,0,none⟩) n cap) n (zs.map (.int .u8)))
 (s:ByteArray)(hx:a.eval x= .string s)(hl:s.size<=n)
 (K:∀w',w'.ownsRow base e 1 (.slice (some ⟨g,0,none⟩) n cap) n ((ad s++zs.drop s.size).map (.int .u8))->Below base w w'->wpList P ops Q rest (a.put o.dst (goInt s.size)) w') :wpList P ops Q (o::rest) a w:=by
 refine wpList_plain hgd fun K' hK=>?_;have hrow:=hown;obtain⟨h1,h2⟩:=hown;rcases h2 with⟨h2,_⟩|⟨g',cap',cur,hv,hbg,hg,hnc,hcm,hcs,htake⟩
 ·simp at h2
 ·simp only[Value.slice.injEq,Option.some.injEq,Addr.mk.injEq,and_true,true_and]at hv;obtain⟨rfl,rfl⟩:=hv;have hlen: ((ad s).map (Value.int .u8)).length=s.size:=by rw[List.length_map,ah]
  have hst:=run_storeCells_at P g 0 e ((ad s).map (Value.int .u8)) 0 cur w hg (by rw[hlen];omega) (eK _ _);have hmin:Nat.min s.size n=s.size:=Nat.min_eq_left hl
  have htk:List.take s.size (List.map (fun b:UInt8=>Value.int IntKind.u8 (b.toNat:Int)) s.data.toList) = (ad s).map (Value.int .u8) :=by
   rw[List.take_of_length_le (by rw[List.length_map];exact Nat.le_refl _),cn,List.map_map];rfl
  have hrun: (Builtin.copy_ #[dT,sT] o.type #[.slice (some ⟨g,0,none⟩) n cap,.string s]).run P w= .ok (goInt s.size) (w.setRow g ((ad s).map (Value.int .u8) ++cur.toList.drop s.size).toArray) :=by
   simp[Builtin.copy_,run_underlying hT,Builtin.lenOf,Builtin.firstCells,sizeOf,typeInfo,hI.out.1,hmin];rw[htk,hst];rw[hlen];simp[Result.andThen]
  unfold Oper.wp;simp[execOp,ho,resolve,invoke,builtin,hd,hx,hrun,Result.andThen];refine hK _ _ (K _ ?_ ?_)
  ·have hcl:cur.size=cap:=by omega
   have hzl:zs.length=n:=by simpa using h1
   refine⟨by rw[List.length_map,List.length_append,ah,List.length_drop];omega,.inr ⟨g,cap,_,rfl,hbg,setRow_heap w g cur _ e _ hg,hnc,hcm,?_,?_⟩⟩
   ·simp[ah];omega
   ·rw[List.map_append];show List.take (n*1) ((ad s).map (Value.int .u8) ++cur.toList.drop s.size) =_;rw[List.take_append,hlen,List.take_of_length_le (by rw[hlen];omega),List.map_drop,<- htake];rw[List.drop_take]
  ·exact(Below.refl _ _).trans ⟨rfl,rfl,rfl,by simp[World.setRow],fun k hk=>setRow_other w g k _ (by omega)⟩
theorem cJ {P:Program}(w:World)(base:Nat)(t ty e:TypeId)(i:TypeInfo)(size:Nat)(ht:P.underlying t=some (.slice e))(hi:P.info? e=some i)
 (v:Value)(n:Nat)(xs:List Value)(hown:w.ownsRow base e size v n xs)(a:Option Addr)(c:Nat) :
 (Builtin.append_ #[t,t] ty #[v,.slice a 0 c]).run P w= .ok v w:=by
 have hl:∀x:Addr,(loadCells x 0).run P w= .ok #[] w:=fun x=>by simp[loadCells,loadCellsFrom]
 rcases hown.2 with⟨rfl,rfl⟩|⟨g,cap,cur,rfl,_,_,hnc,_⟩
 ·cases a<;>simp[Builtin.append_,run_underlying ht,sizeOf,typeInfo,hi,Builtin.lenOf,Builtin.firstCells,hl]
 ·cases a<;>simp[Builtin.append_,run_underlying ht,sizeOf,typeInfo,hi,Builtin.lenOf,Builtin.firstCells,hnc,storeCells,hl]
theorem bO {P:Program}{w:World}{ops:Array Oper}{rest:List Oper}{o:Oper}{a:Act}{Q:Exit->Act->World->Prop}(hgd:o.guard=none)(s x:Operand)(t:TypeId)
 (ho:o.op= .call {callee:= .builtin .append,args:= #[s,x],argTypes:= #[t,t]})
 (base:Nat)(e:TypeId)(i0:TypeInfo)(hT:P.underlying t=some (.slice e))(hI:Hid (P.info? e=some i0/\i0.zero=some (.int .u8 0)/\i0.size=1/\i0.bytes=1))
 (v:Value)(n:Nat)(zs:List Int)(hs:a.eval s=v)(hown:w.ownsRow base e 1 v n (zs.map (.int .u8)))
 (b:Option Addr)(m c:Nat)(ys:List Int)(hx:a.eval x= .slice b m c)(hy:BytesIn w b ys)(hl:ys.length=m)(h47:n+m<=140737488355328)(hbase:base<=w.heap.size)
 (K:∀v' w',w'.ownsRow base e 1 v' (n+m) ((zs++ys).map (.int .u8))->Below base w w'->wpList P ops Q rest (a.put o.dst v') w') :wpList P ops Q (o::rest) a w:=by
 rcases hy with hy|⟨b',off,rfl,_,hy⟩
 ·subst hy;obtain rfl:m=0:=hl.symm;refine wpList_plain hgd fun K' hK=>?_;have hrun:=cJ (P:=P) w base t o.type e i0 1 hT hI.out.1 v n _ hown b c;unfold Oper.wp;simp[execOp,ho,resolve,invoke,builtin,hs,hx,hrun,Result.andThen];exact hK _ _ (K _ _ (by simpa using hown) (Below.refl _ _))
 ·exact bP hgd s x t ho base e i0 hT hI v n zs hs hown b' off m c ys hx hy hl h47 hbase K
theorem jW (m:Nat) : (Builtin.zeroCells (Value.int .u8 0).cells m).toList= (List.replicate m (0:Int)).map (.int .u8) :=by
 apply List.ext_getElem?;intro i;by_cases h:i<m<;>simp[Builtin.zeroCells,Value.cells,h,Nat.mod_one]
theorem kC {P:Program}(w:World)(base:Nat)(t xT ty e:TypeId)(k:IntKind)(i:TypeInfo)(ht:P.underlying t=some (.slice e))(hx:P.underlying xT=some (.int k))
 (hi:P.info? e=some i)(hz:i.zero=some (.int .u8 0))(hsz:i.size=1)(hby:i.bytes=1)
 (v:Value)(n:Nat)(zs:List Int)(hown:w.ownsRow base e 1 v n (zs.map (.int .u8)))(m:Nat)(h47:n+m<=140737488355328)(hbase:base<=w.heap.size)(kx:IntKind) :
 ∃v' w',(Builtin.append_ #[t,xT] ty #[v,.int kx m]).run P w= .ok v' w'/\w'.ownsRow base e 1 v' (n+m) ((zs++List.replicate m 0).map (.int .u8))/\Below base w w':=by
 have hwr:IntKind.i64.wrap (m:Int) =m:=by rw[IntWalk.i64_left];unfold wrap64;omega
 have hzn:zs.length=n:=by simpa using hown.1
 have h48:¬((281474976710656:Int) < (m:Int)) :=by omega
 have hm0:¬((m:Int) <0) :=by omega
 have h63:¬(9223372036854775807< ((n:Int) + (m:Int))) :=by omega
 have grown:∀(old:Nat),old<n+m->
  (w.drew.alloc (.cells ((zs.map (Value.int .u8)).toArray++Builtin.zeroCells (Value.int .u8 0).cells m++Builtin.zeroCells (Value.int .u8 0).cells (grownCap w (n+m) old e- (n+m))) e)).ownsRow base e 1
    (.slice (some ⟨w.heap.size,0,none⟩) (n+m) (grownCap w (n+m) old e)) (n+m) ((zs++List.replicate m 0).map (.int .u8)) :=by
  intro old ho;have hge:=grownCap_ge w (n+m) old e;have hcm:grownCap w (n+m) old e<=maxLen:=grownCap_le_maxLen w (n+m) old e (by unfold maxLen;omega);refine⟨by simp[hzn],.inr ⟨w.heap.size,_,_,rfl,hbase,heap_alloc_new w.drew _,hge,hcm,?_,?_⟩⟩
  ·simp[size_zeroCells,Value.cells,hzn];omega
  ·rw[Array.toList_append,Array.toList_append,jW];rw[List.take_left' (by simp[hzn])];simp
 have hb2:∀ob,Below base w (w.drew.alloc ob) :=fun ob=> (Below.refl _ _).drew.alloc hbase ob;rcases hown.2 with⟨rfl,rfl⟩|⟨g,cap,cur,rfl,hbg,hg,hnc,hcm,hcs,htake⟩
 ·obtain rfl:zs= [] :=List.eq_nil_of_length_eq_zero hzn;by_cases hm:m=0
  ·subst hm;refine⟨.slice none 0 0,w,?_,by simpa using hown,Below.refl _ _⟩;have hwr0:IntKind.i64.wrap 0=0:=hwr;simp[Builtin.append_,run_underlying ht,run_underlying hx,sizeOf,typeInfo,hi,hby,hwr0,asInt,asIntOf]
  ·refine⟨_,_,?_,grown 0 (by omega),hb2 _⟩;have h48':¬(281474976710656<Builtin.nextslicecap m 0) :=by rw[nextslicecap_zero (by omega)];omega
   have h63':¬(9223372036854775807< (m:Int)) :=by omega
   simp[Builtin.append_,run_underlying ht,run_underlying hx,sizeOf,typeInfo,zeroValue,hi,hsz,hby,hz,hwr,hm,hm0,h48,h48',h63',Question.forced,run_firstCells_none,newRow,grownCap,asInt,asIntOf]
 ·have hzc:=jW m;by_cases hroom:n+m<=cap
  ·have hst:=run_storeCells_at P g n e ((List.replicate m (0:Int)).map (Value.int .u8)) 0 cur w hg (by simp;omega) (eK _ _);refine⟨.slice (some ⟨g,0,none⟩) (n+m) cap,w.setRow g (cur.toList.take n++ (List.replicate m (0:Int)).map (Value.int .u8) ++cur.toList.drop (n+m)).toArray,?_,?_,?_⟩
   ·simp only[Nat.add_zero,List.length_map,List.length_replicate]at hst;by_cases hm:m=0
    ·subst hm;have hwr0:IntKind.i64.wrap 0=0:=hwr;simp only[List.replicate_zero,List.map_nil,Nat.add_zero]at hst;simp[Builtin.append_,run_underlying ht,run_underlying hx,sizeOf,typeInfo,hi,hsz,hby,hwr0,hnc,asInt,asIntOf,Addr.add_lit,hst]
    ·simp[Builtin.append_,run_underlying ht,run_underlying hx,sizeOf,typeInfo,zeroValue,hi,hsz,hby,hz,hwr,hm,hm0,h48,hroom,asInt,asIntOf,Addr.add_lit];rw[hzc,hst];simp[Result.andThen]
   ·refine⟨by simp[hzn],.inr ⟨g,cap,_,rfl,hbg,setRow_heap w g cur _ e _ hg,hroom,hcm,?_,?_⟩⟩
    ·simp;omega
    ·rw[Nat.mul_one]at htake⊢;rw[htake];show List.take (n+m) (zs.map (Value.int .u8) ++ (List.replicate m (0:Int)).map (Value.int .u8) ++cur.toList.drop (n+m)) =_;rw[List.take_left' (by simp[hzn]),List.map_append]
   ·exact(Below.refl _ _).trans ⟨rfl,rfl,rfl,by simp[World.setRow],fun k hk=>setRow_other w g k _ (by omega)⟩
  ·have hfo:=run_firstCells_some (P:=P) w.drew 1 n ⟨g,0,none⟩ n cap (zs.map (Value.int .u8)) (by simp[hzn]) (by simpa using hown.cells (g:=g) rfl);refine⟨_,_,?_,grown cap (by omega),hb2 _⟩;have hmp:¬m=0:=by omega
   have h48':¬(281474976710656<Builtin.nextslicecap (n+m) cap) :=by
    have:=growslice_fits (need:=n+m) (old:=cap) (bytes:=1) (by omega) (by omega);omega
   have h63':¬(9223372036854775807< (n:Int) + (m:Int)) :=h63;simp[Builtin.append_,run_underlying ht,run_underlying hx,sizeOf,typeInfo,zeroValue,hi,hsz,hby,hz,hwr,hmp,hm0,h48,h48',h63',hroom,Question.forced,hfo,newRow,grownCap,asInt,asIntOf]
theorem iF {P:Program}{w:World}{ops:Array Oper}{rest:List Oper}{o:Oper}{a:Act}{Q:Exit->Act->World->Prop}(hgd:o.guard=none)(s x:Operand)(t xT:TypeId)
 (ho:o.op= .call {callee:= .builtin .append,args:= #[s,x],argTypes:= #[t,xT]})
 (base:Nat)(e:TypeId)(k:IntKind)(i0:TypeInfo)(hT:P.underlying t=some (.slice e))(hX:P.underlying xT=some (.int k))(hI:Hid (P.info? e=some i0/\i0.zero=some (.int .u8 0)/\i0.size=1/\i0.bytes=1))
 (v:Value)(n:Nat)(zs:List Int)(hs:a.eval s=v)(hown:w.ownsRow base e 1 v n (zs.map (.int .u8)))
 (kx:IntKind)(x0:Int)(m:Nat)(hx:a.eval x= .int kx x0)(hm:x0=m)(h47:n+m<=140737488355328)(hbase:base<=w.heap.size)
 (K:∀v' w',w'.ownsRow base e 1 v' (n+m) ((zs++List.replicate m 0).map (.int .u8))->Below base w w'->wpList P ops Q rest (a.put o.dst v') w') :wpList P ops Q (o::rest) a w:=by
 subst hm;obtain⟨v',w',hrun,h1,h2⟩:=kC (P:=P) w base t xT o.type e k i0 hT hX hI.out.1 hI.out.2.1 hI.out.2.2.1 hI.out.2.2.2 v n zs hown m h47 hbase kx;refine wpList_plain hgd fun K' hK=>?_;unfold Oper.wp;simp[execOp,ho,resolve,invoke,builtin,hs,hx,hrun,Result.andThen];exact hK _ _ (K _ _ h1 h2)
end
end Go.Proofs.YtcjagakckffkiaaGreatDoor
