import Derived.WalkKit
import Derived.WalkSpells
import Derived.WalkLawsBesides
import Derived.Lib.Hide
import Derived.Deep.DeepMust
import Derived.OpenShut
import Derived.Lib.IndexLaws
import Derived.Lib.BytesEntry
import Derived.Laws.OwnMore
import Derived.Laws.Rows
import Derived.Laws.CopyOwn
import Derived.Laws.StructEq
import Derived.Deep.WholeRow
import Derived.ChangeKeysEq
import Derived.Deep.Quiet
import Derived.Maps.RangeWalk
set_option maxHeartbeats 16000000
namespace Go.Proofs.YtcjagakckffkiaaGreatDoor
open Go.RowKit
theorem named {α:Sort _}(x:α) :∃y,Hid (y=x) :=⟨x,Eq.refl x⟩
def aT (w:World)(b off:Nat)(zs:List Int) :Prop:=
 (∀i,i<zs.length->w.cell? ⟨b,off+i,none⟩=some (.int .u8 (zs.getD i 0)))/\∀z∈zs,0<=z/\z<=255
theorem aT.get {w:World}{b off:Nat}{zs:List Int}(h:aT w b off zs)(i:Nat)(hi:i<zs.length) :
 ∃d:Int,d=zs.getD i 0/\0<=d/\d<=255/\w.cell? ⟨b,off+i,none⟩=some (.int .u8 d) :=
 ⟨_,rfl,(h.2 _ (by rw[List.getD_eq_getElem?_getD,List.getElem?_eq_getElem hi];exact List.getElem_mem hi)).1,
  (h.2 _ (by rw[List.getD_eq_getElem?_getD,List.getElem?_eq_getElem hi];exact List.getElem_mem hi)).2,h.1 i hi⟩
theorem aT.below {w w':World}{B b off:Nat}{zs:List Int}(h:aT w b off zs)(hb:Below B w w')(hB:b<B) :aT w' b off zs:=
 ⟨fun i hi=> (hb.cell (p:=⟨b,off+i,none⟩) hB).trans (h.1 i hi),h.2⟩
theorem aT.bJ {w:World}{base g n cap:Nat}{e:TypeId}{zs:List Int}(h:w.ownsRow base e 1 (.slice (some ⟨g,0,none⟩) n cap) n (zs.map (.int .u8)))
 (hz:∀z∈zs,0<=z/\z<=255) :aT w g 0 zs:=by
 refine⟨fun i hi=>?_,hz⟩;have hl:=h.1;rw[List.length_map]at hl;rw[Nat.zero_add,h.cellAt i (by omega),List.getElem?_map,List.getElem?_eq_getElem hi,List.getD_eq_getElem?_getD,List.getElem?_eq_getElem hi];rfl
theorem lU {w:World}{base g n cap:Nat}{e:TypeId}{xs:List Value}(h:w.ownsRow base e 1 (.slice (some ⟨g,0,none⟩) n cap) n xs) :base<=g/\g<w.heap.size:=by
 rcases h.2 with⟨h',_⟩|⟨g',cap',cur,hv,hb',hh,r⟩
 ·simp at h'
 ·simp only[Value.slice.injEq,Option.some.injEq,Addr.mk.injEq,and_true,true_and]at hv;obtain⟨rfl,rfl⟩:=hv;refine⟨hb',?_⟩;rcases Nat.lt_or_ge g w.heap.size with h|h
  ·exact h
  ·rw[Array.getElem?_eq_none h]at hh;cases hh
theorem zm {P:Program}{w:World}{src e dst:TypeId}(hs:P.underlying src=some (.slice e))(he:P.underlying e=some (.int .u8))(hd:P.underlying dst=some .string)
 {b off:Nat}{zs:List Int}(h:aT w b off zs)(n cap:Nat)(hn:zs.length=n) :
 (convert src dst (.slice (some ⟨b,off,none⟩) n cap)).run P w= .ok (.string (strOfNums zs)) w:=by
 exact run_convert_bytes_arg w src e hs he b off n cap zs hn (fun i hi=>h.1 i (by omega)) dst hd
def af (s:ByteArray) :List Int:=s.data.toList.map fun b=> (b.toNat:Int)
theorem an (s:ByteArray) : (af s).length=s.size:=by unfold af;rw[List.length_map,Array.length_toList];rfl
theorem dw (s:ByteArray) :∀z∈af s,0<=z/\z<=255:=by
 intro z hz;obtain⟨b,_,rfl⟩:=List.mem_map.1 hz;have:=b.toNat_lt;omega
theorem av {zs:List Int}(h:∀z∈zs,0<=z/\z<=255) :af (strOfNums zs) =zs:=by
 unfold af;rw[strOfNums_data,List.map_map]
 conv=>rhs;rw[<- List.map_id zs]
 refine List.map_congr_left fun z hz=>?_;have:=h z hz;show((UInt8.ofNat z.toNat).toNat:Int) =z;rw[UInt8.toNat_ofNat'];omega
def xj (zs:List Int)(n:Nat)(r:Int)(w:World)(e:Ending)(w':World) :Prop:=
 ∃b c,e= .returned (.tuple #[.slice (some ⟨b,0,none⟩) n c,.int .i64 r])/\aT w' b 0 zs/\b<w'.heap.size/\Below w.heap.size w w'
def aB (k:IntKind)(w:World)(a:Option Addr)(len cap:Nat)(zs:List Int) :Prop:=
 zs.length=len/\len<=cap/\cap<=maxLen/\ (∀z∈zs,(Lit.int k z).wf=true)/\
 (len=0\/∃b off,a=some ⟨b,off,none⟩/\b<w.heap.size/\∀i,i<zs.length->w.cell? ⟨b,off+i,none⟩=some (.int k (zs.getD i 0)))
theorem aB.nil {k:IntKind}{w:World} :aB k w none 0 0 [] :=
 ⟨rfl,Nat.le_refl _,by unfold maxLen;omega,fun _ h=>by simp at h,.inl rfl⟩
theorem aB.mk' {k:IntKind}{w:World}{x:Addr}{len cap:Nat}{zs:List Int}(hl:len<=cap)(hm:cap<=maxLen)(hz:zs.length=cap)
 (hc:∀i,i<zs.length->w.cell? (x.add i) =some (.int k (zs.getD i 0)))(hw:∀n∈zs,(Lit.int k n).wf=true) :aB k w (some x) len cap (zs.take len) :=by
 refine⟨by rw[List.length_take];omega,hl,hm,fun z h=>hw z (List.mem_of_mem_take h),?_⟩;rcases Nat.eq_zero_or_pos len with h|h
 ·exact .inl h
 ·obtain⟨b,off,rfl,hc'⟩:=ints_at hc (by omega);refine .inr ⟨b,off,rfl,?_,fun i hi=>?_⟩
  ·have h0:=hc' 0 (by omega);rcases Nat.lt_or_ge b w.heap.size with h|h
   ·exact h
   ·rw[World.cell?]at h0;simp[Array.getElem?_eq_none h]at h0
  ·rw[List.length_take]at hi;rw[hc' i (by omega)]
   congr 2
   rw[List.getD_eq_getElem?_getD,List.getD_eq_getElem?_getD,List.getElem?_take,if_pos (by omega)]
theorem aB.row {w:World}{a:Option Addr}{len cap:Nat}{zs:List Int}(h:aB .u8 w a len cap zs)(hp:0<len) :
 ∃b off,a=some ⟨b,off,none⟩/\b<w.heap.size/\aT w b off zs:=by
 obtain⟨_,_,_,h4,h5⟩:=h;rcases h5 with h5|⟨b,off,h5,h6,h7⟩
 ·omega
 ·exact⟨b,off,h5,h6,h7,fun z hz=>bounds_u8 (h4 z hz)⟩
def BytesIn (w:World)(a:Option Addr)(zs:List Int) :Prop:=
 zs= []\/∃b off,a=some ⟨b,off,none⟩/\b<w.heap.size/\aT w b off zs
theorem aB.bytes {w:World}{a:Option Addr}{len cap:Nat}{zs:List Int}(h:aB .u8 w a len cap zs) :BytesIn w a zs:=by
 rcases Nat.eq_zero_or_pos len with h0|h0
 ·exact .inl (List.length_eq_zero_iff.1 (h.1.trans h0))
 ·exact .inr (h.row h0)
theorem BytesIn.below {w w':World}{a:Option Addr}{zs:List Int}(h:BytesIn w a zs)(hb:Below w.heap.size w w') :BytesIn w' a zs:=by
 rcases h with h|⟨b,off,h1,h2,h3⟩
 ·exact .inl h
 ·exact .inr ⟨b,off,h1,Nat.lt_of_lt_of_le h2 hb.size,h3.below hb h2⟩
theorem BytesIn.dS {w:World}{b:Nat}{zs:List Int}(h:aT w b 0 zs)(hb:b<w.heap.size) :BytesIn w (some ⟨b,0,none⟩) zs:= .inr ⟨b,0,rfl,hb,h⟩
theorem BytesIn.bJ {w:World}{base g n cap:Nat}{e:TypeId}{zs:List Int}(h:w.ownsRow base e 1 (.slice (some ⟨g,0,none⟩) n cap) n (zs.map (.int .u8)))
 (hz:∀z∈zs,0<=z/\z<=255) :BytesIn w (some ⟨g,0,none⟩) zs:= .dS (.bJ h hz) (lU h).2
theorem bF {P:Program}{w:World}{src e dst:TypeId}(hs:P.underlying src=some (.slice e))(he:P.underlying e=some (.int .u8))(hd:P.underlying dst=some .string)
 {a:Option Addr}{zs:List Int}(h:BytesIn w a zs)(n cap:Nat)(hn:zs.length=n) :
 (convert src dst (.slice a n cap)).run P w= .ok (.string (strOfNums zs)) w:=by
 rcases h with h|⟨b,off,h1,_,h3⟩
 ·subst h;obtain rfl:n=0:=hn.symm
  cases a with
  |none=>exact run_convert_bytes_nil w src e hs he 0 cap dst hd
  |some x=>
   rw[run_convert_bytes_string w src dst e _ _ _ hs he hd];exact run_bytesToString w x 0 cap [] (by simpa using run_loadCells_list (P:=P) w x [] (fun j v hj=>by simp at hj))
 ·rw[h1];exact zm hs he hd h3 n cap hn
theorem sP {w:World}{base n:Nat}{e:TypeId}{v:Value}{xs:List Value}(h:w.ownsRow base e 1 v n xs)(hn:0<n) :∃g cap,v= .slice (some ⟨g,0,none⟩) n cap/\base<=g:=by
 rcases h.2 with⟨_,h'⟩|⟨g',cap',cur,hv,hb',_⟩
 ·omega
 ·exact⟨g',cap',hv,hb'⟩
theorem dC (b off j:Nat) : (⟨b,off,none⟩:Addr).add j=⟨b,off+j,none⟩:=Go.WideShapes.add_plain _ _ _
theorem aT.news {w:World}{b off:Nat}{zs:List Int}(h:aT w b off zs) :∀j u,(zs.map (Value.int .u8))[j]? =some u->w.cell? ((⟨b,off,none⟩:Addr).add j) =some u:=by
 intro j u hj
 have hl:j<zs.length:=by
  rcases Nat.lt_or_ge j zs.length with h|h
  ·exact h
  ·rw[List.getElem?_eq_none (by simpa using h)]at hj;cases hj
 rw[dC,h.1 j hl];rw[List.getElem?_map,List.getElem?_eq_getElem hl]at hj;rw[List.getD_eq_getElem?_getD,List.getElem?_eq_getElem hl];exact hj
theorem iy (k:IntKind)(zs:List Int) :∀u∈zs.map (Value.int k),u.oneCell'=true:=by
 intro u hu;obtain⟨z,_,rfl⟩:=List.mem_map.1 hu;rfl
theorem tx {w:World}{base n:Nat}{e:TypeId}{v:Value}{xs:List Value}(h:w.ownsRow base e 1 v n xs) :∀k,v.ownBlock=some k->base<=k:=by
 intro k hk;rcases h.2 with⟨h',_⟩|⟨g',cap',cur,hv,hb',_⟩
 ·rw[h']at hk;cases hk
 ·rw[hv]at hk;obtain rfl:g'=k:=by simpa [Value.ownBlock]using hk
  exact hb'
theorem iO {P:Program}{w:World}{ops:Array Oper}{rest:List Oper}{o:Oper}{a:Act}{Q:Exit->Act->World->Prop}(hgd:o.guard=none)(s x:Operand)(t:TypeId)
 (ho:o.op= .call {callee:= .builtin .append,args:= #[s,x],argTypes:= #[t,t]})
 (base:Nat)(e:TypeId)(i0:TypeInfo)(hT:P.underlying t=some (.slice e))(hI:Hid (P.info? e=some i0/\i0.zero=some (.int .u8 0)/\i0.size=1/\i0.bytes=1))
 (v:Value)(n:Nat)(zs:List Int)(hs:a.eval s=v)(hown:w.ownsRow base e 1 v n (zs.map (.int .u8)))
 (b off m c:Nat)(ys:List Int)(hx:a.eval x= .slice (some ⟨b,off,none⟩) m c)(hy:aT w b off ys)(hl:ys.length=m)(h47:n+m<=140737488355328)(hbase:base<=w.heap.size)
 (K:∀v' w',w'.ownsRow base e 1 v' (n+m) ((zs++ys).map (.int .u8))->Below base w w'->wpList P ops Q rest (a.put o.dst v') w') :wpList P ops Q (o::rest) a w:=by
 refine wpList_append_own _ hgd s x t ho base e i0 (.int .u8 0) 1 1 hT hI.out.1 hI.out.2.1 hI.out.2.2.1 hI.out.2.2.2 rfl (by decide) v n _ hs hown ⟨b,off,none⟩ m c (ys.map (.int .u8)) hx (by rw[List.length_map,hl,Nat.mul_one]) hy.news (iy _ _) (by unfold maxLen;omega) (by omega) hbase ?_;intro v' w' h1 h2 _;exact K v' w' (by rw[List.map_append];exact h1) ((Below.refl _ _).grown h2 hbase (tx hown))
end Go.Proofs.YtcjagakckffkiaaGreatDoor
namespace Go.Proofs.YtcjagakckffkiaaGreatDoor
open Go.RowKit
def Ls (zs:List Int)(n:Nat)(r:Int)(w:World)(e:Ending)(w':World) :Prop:=
 ∃b c,e= .returned (.tuple #[.slice (some ⟨b,0,none⟩) n c,.int .i64 r])/\aT w' b 0 zs/\b<w'.heap.size/\Below w.heap.size w w'/\n<=c/\c<=maxLen
theorem Ls.ret {zs:List Int}{n:Nat}{r:Int}{w w':World}{e:Ending}(h:Ls zs n r w e w') :xj zs n r w e w':=by
 obtain⟨b,c,h1,h2,h3,h4,_⟩:=h;exact⟨b,c,h1,h2,h3,h4⟩
theorem cm (s:ByteArray) :af s=s.data.toList.map fun b=> (b.toNat:Int) :=rfl
theorem az (s:ByteArray) :strOfNums (af s) =s:=by
 apply ByteArray.ext;apply Array.ext';rw[strOfNums_data,cm,List.map_map]
 conv=>rhs;rw[<- List.map_id s.data.toList]
 exact List.map_congr_left fun b _=>by
  show UInt8.ofNat ((b.toNat:Int)).toNat=b;simp
theorem ue (s:ByteArray) :0<=Lib.indexByte s.data.toList 0↔(0:Int)∈af s:=by
 constructor
 ·intro h;obtain⟨o,ho⟩:∃o:Nat,Lib.indexByte s.data.toList 0=o:=⟨(Lib.indexByte s.data.toList 0).toNat,by omega⟩;have h1:= (Lib.indexByte_some ho).1;rw[cm,List.mem_map];exact⟨0,List.mem_of_getElem? h1,rfl⟩
 ·intro h;rw[cm,List.mem_map]at h;obtain⟨b,hb,h0⟩:=h
  obtain rfl:b=0:=by
   apply UInt8.toNat_inj.1;have:b.toNat=0:=by omega
   simpa using this
  rcases Int.lt_or_le (Lib.indexByte s.data.toList 0) 0 with h|h
  ·exfalso;have h1:=Lib.indexByte_ge s.data.toList 0;obtain⟨k,hk⟩:=List.getElem?_of_mem hb;exact Lib.indexByte_none (c:=0) (by omega) k hk
  ·exact h
theorem Cl (zs:List Int)(hz:∀z∈zs,0<=z/\z<=255) :0<=Lib.indexByte (Lib.bytesOf zs) 0↔(0:Int)∈zs:=by
 have e:Lib.bytesOf zs= (strOfNums zs).data.toList:=by rw[strOfNums_data];rfl
 rw[e,ue,av hz]
theorem pM {P:Program}{w:World}{a:Option Addr}{zs:List Int}(h:BytesIn w a zs)(n c:Nat)(hn:zs.length=n)(cv:Int) :
 (Extern.BytealgIndexByte.indexByte #[.slice a n c,.int .u8 cv]).run P w= .ok (.int .i64 (Lib.indexByte (Lib.bytesOf zs) cv.toNat.toUInt8)) w:=by
 rcases h with h|⟨b,off,rfl,_,h⟩
 ·subst h;obtain rfl:n=0:=hn.symm
  cases a with
  |none=>exact Lib.run_indexByteNil w 0 c cv
  |some x=>exact Lib.run_indexByteString (P:=P) .empty cv w
 ·exact Lib.run_indexByteSlice w b off n c zs hn (fun i hi=>h.1 i (by omega)) cv
theorem fO {P:Program}{e:TypeId}(h: (P.info? e).map (fun i=> (i.zero,i.size,i.bytes)) =some (some (.int .u8 0),1,1)) :
 ∃i0,Hid (P.info? e=some i0/\i0.zero=some (.int .u8 0)/\i0.size=1/\i0.bytes=1) :=by
 cases hq:P.info? e with
 |none=>simp[hq]at h
 |some i=>simp[hq]at h;exact⟨i,rfl,h.1,h.2.1,h.2.2⟩
theorem lJ {P:Program}{w:World}{ops:Array Oper}{rest:List Oper}{o:Oper}{a:Act}{Q:Exit->Act->World->Prop}(hgd:o.guard=none)(d x:Operand)(dT sT:TypeId)
 (ho:o.op= .call {callee:= .builtin .copy,args:= #[d,x],argTypes:= #[dT,sT]})
 (base:Nat)(e:TypeId)(i0:TypeInfo)(hT:P.underlying dT=some (.slice e))(hI:Hid (P.info? e=some i0/\i0.zero=some (.int .u8 0)/\i0.size=1/\i0.bytes=1))
 (g n cap:Nat)(zs:List Int)(hd:a.eval d= .slice (some ⟨g,0,none⟩) n cap)(hown:w.ownsRow base e 1 (.slice (some ⟨g,0,none⟩) n cap) n (zs.map (.int .u8)))
 (s:ByteArray)(hx:a.eval x= .string s)(hl:s.size<=n)
 (K:∀w',w'.ownsRow base e 1 (.slice (some ⟨g,0,none⟩) n cap) n ((af s++zs.drop s.size).map (.int .u8))->Below base w w'->wpList P ops Q rest (a.put o.dst (goInt s.size)) w') :wpList P ops Q (o::rest) a w:=by
 refine wpList_plain hgd fun K' hK=>?_;have hrow:=hown;obtain⟨h1,h2⟩:=hown;rcases h2 with⟨h2,_⟩|⟨g',cap',cur,hv,hbg,hg,hnc,hcm,hcs,htake⟩
 ·simp at h2
 ·simp only[Value.slice.injEq,Option.some.injEq,Addr.mk.injEq,and_true,true_and]at hv;obtain⟨rfl,rfl⟩:=hv;have hlen: ((af s).map (Value.int .u8)).length=s.size:=by rw[List.length_map,an]
  have hst:=run_storeCells_at P g 0 e ((af s).map (Value.int .u8)) 0 cur w hg (by rw[hlen];omega) (iy _ _);have hmin:Nat.min s.size n=s.size:=Nat.min_eq_left hl
  have htk:List.take s.size (List.map (fun b:UInt8=>Value.int IntKind.u8 (b.toNat:Int)) s.data.toList) = (af s).map (Value.int .u8) :=by
   rw[List.take_of_length_le (by rw[List.length_map];exact Nat.le_refl _),cm,List.map_map];rfl
  have hrun: (Builtin.copy_ #[dT,sT] o.type #[.slice (some ⟨g,0,none⟩) n cap,.string s]).run P w= .ok (goInt s.size) (w.setRow g ((af s).map (Value.int .u8) ++cur.toList.drop s.size).toArray) :=by
   simp[Builtin.copy_,run_underlying hT,Builtin.lenOf,Builtin.firstCells,sizeOf,typeInfo,hI.out.1,hmin];rw[htk,hst];rw[hlen];simp[Result.andThen]
  unfold Oper.wp;simp[execOp,ho,resolve,invoke,builtin,hd,hx,hrun,Result.andThen];refine hK _ _ (K _ ?_ ?_)
  ·have hcl:cur.size=cap:=by omega
   have hzl:zs.length=n:=by simpa using h1
   refine⟨by rw[List.length_map,List.length_append,an,List.length_drop];omega,.inr ⟨g,cap,_,rfl,hbg,setRow_heap w g cur _ e _ hg,hnc,hcm,?_,?_⟩⟩
   ·simp[an];omega
   ·rw[List.map_append];show List.take (n*1) ((af s).map (Value.int .u8) ++cur.toList.drop s.size) =_;rw[List.take_append,hlen,List.take_of_length_le (by rw[hlen];omega),List.map_drop,<- htake];rw[List.drop_take]
  ·exact(Below.refl _ _).trans ⟨rfl,rfl,rfl,by simp[World.setRow],fun k hk=>setRow_other w g k _ (by omega)⟩
theorem ew {P:Program}(w:World)(base:Nat)(t ty e:TypeId)(i:TypeInfo)(size:Nat)(ht:P.underlying t=some (.slice e))(hi:P.info? e=some i)
 (v:Value)(n:Nat)(xs:List Value)(hown:w.ownsRow base e size v n xs)(a:Option Addr)(c:Nat) :
 (Builtin.append_ #[t,t] ty #[v,.slice a 0 c]).run P w= .ok v w:=by
 have hl:∀x:Addr,(loadCells x 0).run P w= .ok #[] w:=fun x=>by simp[loadCells,loadCellsFrom]
 rcases hown.2 with⟨rfl,rfl⟩|⟨g,cap,cur,rfl,_,_,hnc,_⟩
 ·cases a<;>simp[Builtin.append_,run_underlying ht,sizeOf,typeInfo,hi,Builtin.lenOf,Builtin.firstCells,hl]
 ·cases a<;>simp[Builtin.append_,run_underlying ht,sizeOf,typeInfo,hi,Builtin.lenOf,Builtin.firstCells,hnc,storeCells,hl]
theorem iK {P:Program}{w:World}{ops:Array Oper}{rest:List Oper}{o:Oper}{a:Act}{Q:Exit->Act->World->Prop}(hgd:o.guard=none)(s x:Operand)(t:TypeId)
 (ho:o.op= .call {callee:= .builtin .append,args:= #[s,x],argTypes:= #[t,t]})
 (base:Nat)(e:TypeId)(i0:TypeInfo)(hT:P.underlying t=some (.slice e))(hI:Hid (P.info? e=some i0/\i0.zero=some (.int .u8 0)/\i0.size=1/\i0.bytes=1))
 (v:Value)(n:Nat)(zs:List Int)(hs:a.eval s=v)(hown:w.ownsRow base e 1 v n (zs.map (.int .u8)))
 (b:Option Addr)(m c:Nat)(ys:List Int)(hx:a.eval x= .slice b m c)(hy:BytesIn w b ys)(hl:ys.length=m)(h47:n+m<=140737488355328)(hbase:base<=w.heap.size)
 (K:∀v' w',w'.ownsRow base e 1 v' (n+m) ((zs++ys).map (.int .u8))->Below base w w'->wpList P ops Q rest (a.put o.dst v') w') :wpList P ops Q (o::rest) a w:=by
 rcases hy with hy|⟨b',off,rfl,_,hy⟩
 ·subst hy;obtain rfl:m=0:=hl.symm;refine wpList_plain hgd fun K' hK=>?_;have hrun:=ew (P:=P) w base t o.type e i0 1 hT hI.out.1 v n _ hown b c;unfold Oper.wp;simp[execOp,ho,resolve,invoke,builtin,hs,hx,hrun,Result.andThen];exact hK _ _ (K _ _ (by simpa using hown) (Below.refl _ _))
 ·exact iO hgd s x t ho base e i0 hT hI v n zs hs hown b' off m c ys hx hy hl h47 hbase K
end Go.Proofs.YtcjagakckffkiaaGreatDoor
namespace Go.Proofs.YtcjagakckffkiaaGreatDoor
open Go.RowKit
def ao (n:Nat) :List Int:=List.replicate n 0
theorem al (n:Nat) : (ao n).length=n:=List.length_replicate
def arr (zs:List Int) :Array Value:= (zs.map (Value.int .u8)).toArray
theorem iN (zs:List Int) : (arr zs).size=zs.length:=by simp[arr]
theorem yB (zs:List Int) : (arr zs).toList=zs.map (Value.int .u8) :=by simp[arr]
theorem qk {zs:List Int}{i:Nat}(h:i<zs.length) : (arr zs)[i]? =some (.int .u8 (zs.getD i 0)) :=by
 simp[arr,List.getElem?_map,List.getElem?_eq_getElem h,List.getD_eq_getElem?_getD]
theorem JQ (zs:List Int) : (arr zs).all (·.oneCell') =true:=by
 rw[Array.all_eq_true_iff_forall_mem];intro u hu;exact iy _ zs u (by simpa [arr]using hu)
def Bytes (zs:List Int) :Prop:=∀z∈zs,0<=z/\z<=255
theorem Bytes.replicate {c:Int}(n:Nat)(h:0<=c/\c<=255) :Bytes (List.replicate n c) :=fun z hz=>by
 rw[List.eq_of_mem_replicate hz];exact h
theorem Bytes.append {xs ys:List Int}(h:Bytes xs)(h':Bytes ys) :Bytes (xs++ys) :=fun z hz=> (List.mem_append.1 hz).elim (h z) (h' z)
theorem Bytes.take {xs:List Int}(h:Bytes xs)(n:Nat) :Bytes (xs.take n) :=fun z hz=>h z (List.mem_of_mem_take hz)
theorem Bytes.drop {xs:List Int}(h:Bytes xs)(n:Nat) :Bytes (xs.drop n) :=fun z hz=>h z (List.mem_of_mem_drop hz)
theorem Bytes.getD {xs:List Int}(h:Bytes xs)(i:Nat) :0<=xs.getD i 0/\xs.getD i 0<=255:=by
 rcases Nat.lt_or_ge i xs.length with hi|hi
 ·rw[List.getD_eq_getElem?_getD,List.getElem?_eq_getElem hi];exact h _ (List.getElem_mem hi)
 ·rw[List.getD_eq_getElem?_getD,List.getElem?_eq_none hi];exact⟨Int.le_refl 0,by decide⟩
theorem cZ (n:Nat) :Bytes (ao n) := .replicate n (by decide)
def bP (w:World)(g:Nat)(T:TypeId)(zs:List Int) :Prop:=w.heap[g]? =some (.cells (arr zs) T (0,0))/\Bytes zs
theorem bP.row {w:World}{g:Nat}{T:TypeId}{zs:List Int}(h:bP w g T zs) :aT w g 0 zs:=
 ⟨fun i hi=>by rw[Nat.zero_add,cell_of_row w g i _ _ _ h.1,qk hi],h.2⟩
theorem bP.lt {w:World}{g:Nat}{T:TypeId}{zs:List Int}(h:bP w g T zs) :g<w.heap.size:=by
 rcases Nat.lt_or_ge g w.heap.size with hl|hl
 ·exact hl
 ·rw[bP,Array.getElem?_eq_none hl]at h;cases h.1
theorem bP.below {w w':World}{B g:Nat}{T:TypeId}{zs:List Int}(h:bP w g T zs)(hb:Below B w w')(hg:g<B) :bP w' g T zs:=⟨(hb.block g hg).trans h.1,h.2⟩
theorem bP.bytes {w:World}{g:Nat}{T:TypeId}{zs:List Int}(h:bP w g T zs) :BytesIn w (some ⟨g,0,none⟩) zs:= .dS h.row h.lt
theorem bP.bJ {w:World}{base g n:Nat}{e:TypeId}{zs:List Int}(h:w.ownsRow base e 1 (.slice (some ⟨g,0,none⟩) n n) n (zs.map (.int .u8)))(hz:Bytes zs) :bP w g e zs:=by
 obtain⟨h1,h2⟩:=h;rcases h2 with⟨h2,_⟩|⟨g',cap',cur,hv,_,hh,_,_,hcs,htake⟩
 ·simp at h2
 ·simp only[Value.slice.injEq,Option.some.injEq,Addr.mk.injEq,and_true,true_and]at hv;obtain⟨rfl,rfl⟩:=hv;refine⟨?_,hz⟩
  have:cur=arr zs:=by
   apply Array.ext';rw[yB,<- htake,List.take_of_length_le (by simp;omega)]
  rw[<- this];exact hh
theorem aT.take {w:World}{b off:Nat}{zs:List Int}(h:aT w b off zs)(n:Nat) :aT w b off (zs.take n) :=by
 refine⟨fun i hi=>?_,Bytes.take h.2 n⟩;rw[List.length_take]at hi;rw[h.1 i (by omega)]
 congr 2
 rw[List.getD_eq_getElem?_getD,List.getD_eq_getElem?_getD,List.getElem?_take,if_pos (by omega)]
theorem aT.drop {w:World}{b off:Nat}{zs:List Int}(h:aT w b off zs)(n:Nat) :aT w b (off+n) (zs.drop n) :=by
 refine⟨fun i hi=>?_,Bytes.drop h.2 n⟩;rw[List.length_drop]at hi;have:=h.1 (n+i) (by omega);rw[<- Nat.add_assoc]at this;rw[this]
 congr 2
 rw[List.getD_eq_getElem?_getD,List.getD_eq_getElem?_getD,List.getElem?_drop]
theorem ar {w0 w1 w2:World}(h:Below w0.heap.size w0 w1)(h':Below w1.heap.size w1 w2) :Below w0.heap.size w0 w2:=h.trans (h'.mono h.size)
theorem BytesIn.bytes {w:World}{a:Option Addr}{zs:List Int}(h:BytesIn w a zs) :Bytes zs:=by
 rcases h with h|⟨_,_,_,_,h⟩
 ·rw[h];exact fun z hz=>by simp at hz
 ·exact h.2
def dp (w w':World)(g:Nat) :Prop:=∃cs,w'=w.setRow g cs
theorem dp.below {w w':World}{g:Nat}(h:dp w w' g){B:Nat}(hB:B<=g) :Below B w w':=by
 obtain⟨cs,rfl⟩:=h;exact below_setRow (Below.refl _ _) hB cs
theorem dp.other {w w':World}{g:Nat}(h:dp w w' g){k:Nat}(hk:k≠g) :w'.heap[k]? =w.heap[k]? :=by
 obtain⟨cs,rfl⟩:=h;exact setRow_other w g k cs (by omega)
theorem dp.size {w w':World}{g:Nat}(h:dp w w' g) :w'.heap.size=w.heap.size:=by
 obtain⟨cs,rfl⟩:=h;exact size_setRow w g cs
theorem bP.aD {w w':World}{g k:Nat}{T:TypeId}{zs:List Int}(h:bP w k T zs)(ht:dp w w' g)(hk:k≠g) :bP w' k T zs:=⟨(ht.other hk).trans h.1,h.2⟩
theorem aT.aD {w w':World}{g k off:Nat}{zs:List Int}(h:aT w k off zs)(ht:dp w w' g)(hk:k≠g) :aT w' k off zs:=
 ⟨fun i hi=> (World.cell?_of_block (ht.other (k:=k) hk)).trans (h.1 i hi),h.2⟩
section
variable {P:Program} {w:World} {ops:Array Oper} {rest:List Oper} {o:Oper} {a:Act} {Q:Exit->Act->World->Prop}
def jR (P:Program)(T e:TypeId)(n:Nat) :Prop:=
 P.underlying T=some (.array n e)/\ (P.info? T).map (fun i=> (i.zero,i.size)) =some (some (.agg (arr (ao n))),n)/\P.underlying e=some (.int .u8)/\ (P.info? e).map (fun i=> (i.zero,i.size,i.bytes)) =some (some (.int .u8 0),1,1)
theorem jR.zero {T e:TypeId}{n:Nat}(h:jR P T e n)(w:World) : (zeroValue T).run P w= .ok (.agg (arr (ao n))) w:= (zero_of_info h.2.1).1 w
theorem jR.size {T e:TypeId}{n:Nat}(h:jR P T e n) : (P.info? T).map (·.size) =some n:= (zero_of_info h.2.1).2
theorem jR.elem {T e:TypeId}{n:Nat}(h:jR P T e n) : (P.info? e).map (·.size) =some 1:=by
 have:=h.2.2.2
 cases hq:P.info? e with
 |none=>simp[hq]at this
 |some i=>simp[hq]at this;simp[this.2.1]
theorem cI (hgd:o.guard=none)(T e:TypeId)(n:Nat)(hT:jR P T e n)(ho:o.op= .alloc T)
 (K:∀w',bP w' w.heap.size T (ao n)->Below w.heap.size w w'->wpList P ops Q rest (a.put o.dst (.pointer (some ⟨w.heap.size,0,none⟩))) w') :wpList P ops Q (o::rest) a w:=by
 refine wpList_plain hgd fun K' hK=>?_;unfold Oper.wp;simp[execOp,ho,Instr.alloc,hT.zero,newVar,newRow,Result.andThen,Value.cells];exact hK _ _ (K _ ⟨heap_alloc_new w _,cZ n⟩ ((Below.refl _ _).alloc (Nat.le_refl _) _))
theorem ky (hgd:o.guard=none)(T:TypeId)(x:Operand)(ho:o.op= .box T x)(zs:List Int)(hx:a.eval x= .agg (arr zs))(hz:Bytes zs)
 (K:∀w',bP w' w.heap.size T zs->Below w.heap.size w w'->wpList P ops Q rest (a.put o.dst (.pointer (some ⟨w.heap.size,0,none⟩))) w') :wpList P ops Q (o::rest) a w:=by
 refine wpList_plain hgd fun K' hK=>?_;unfold Oper.wp;simp[execOp,ho,hx,Instr.box,newVar,newRow,Result.andThen,Value.cells];exact hK _ _ (K _ ⟨heap_alloc_new w _,hz⟩ ((Below.refl _ _).alloc (Nat.le_refl _) _))
theorem oq (hgd:o.guard=none)(T e:TypeId)(n:Nat)(hT:jR P T e n)(ho:o.op= .build T #[])
 (K:wpList P ops Q rest (a.put o.dst (.agg (arr (ao n)))) w) :wpList P ops Q (o::rest) a w:=by
 refine wpList_plain hgd fun K' hK=>?_;unfold Oper.wp;simp[execOp,ho,Instr.build,hT.zero,run_underlying hT.1,Result.andThen,Value.cells,Instr.fill,sizeOf,typeInfo];have:=hT.elem
 cases hq:P.info? e with
 |none=>simp[hq]at this
 |some i=>
  simp;exact hK _ _ K
theorem gz {T e:TypeId}{n:Nat}(hT:jR P T e n)(b off:Nat)(zs:List Int)(hr:aT w b off zs)(hl:zs.length=n) :
 (loadVar T ⟨b,off,none⟩).run P w= .ok (.agg (arr zs)) w:=by
 have hll:=run_loadCells_list (P:=P) w ⟨b,off,none⟩ (zs.map (.int .u8)) (fun j u hj=>hr.news j u hj);rw[List.length_map,hl]at hll;have hs:=hT.size
 cases hq:P.info? T with
 |none=>simp[hq]at hs
 |some i=>
  have hs:i.size=n:=by simpa [hq]using hs
  have hagg: (isAgg T).run P w= .ok true w:=by
   unfold isAgg;rw[Sem.run_bind,run_underlying hT.1 w];simp
  simp[loadVar,Sem.run_bind,hagg,sizeOf,typeInfo,hq,hs,hll];rfl
theorem dG (hgd:o.guard=none)(T e:TypeId)(n:Nat)(hT:jR P T e n)(x:Operand)(ho:o.op= .load T x)(b off:Nat)(hx:a.eval x= .pointer (some ⟨b,off,none⟩))
 (zs:List Int)(hr:aT w b off zs)(hl:zs.length=n)(K:wpList P ops Q rest (a.put o.dst (.agg (arr zs))) w) :wpList P ops Q (o::rest) a w:=by
 refine wpList_plain hgd fun K' hK=>?_;unfold Oper.wp execOp;simp only[ho,hx,Instr.loadAt,Instr.sureAddr,Sem.run_bind,Sem.run_pure,Result.andThen_ok,gz hT b off zs hr hl];exact hK _ _ K
theorem kN {C:World->Prop}{K:Act->Prop}(T e:TypeId)(n:Nat)(hT:jR P T e n)(x:Operand)(ho:o.op= .load T x)(b off:Nat)(hx:a.eval x= .pointer (some ⟨b,off,none⟩))
 (zs:List Int)(hr:∀w,C w->aT w b off zs)(hl:zs.length=n)(hk:K (a.put o.dst (.agg (arr zs)))) :o.quiet P a C K:=
 ⟨_,fun w hw=>by
  unfold Oper.quietAt execOp;simp only[ho,hx,Instr.loadAt,Instr.sureAddr,Sem.run_bind,Sem.run_pure,Result.andThen_ok,gz hT b off zs (hr w hw) hl];exact⟨rfl,rfl⟩,hk⟩
theorem run_arrayAt {T e:TypeId}{n:Nat}(hT:jR P T e n)(x:Option Addr)(len cap:Nat)(hl:n<=len) : (Instr.arrayAt T (.slice x len cap)).run P w= .ok (.pointer x) w:=by
 simp[Instr.arrayAt,run_underlying hT.1,Nat.not_lt.2 hl]
theorem cB (hgd:o.guard=none)(T e:TypeId)(n:Nat)(hT:jR P T e n)(x y:Operand)(ho:o.op= .store T x y)(g:Nat)(hx:a.eval x= .pointer (some ⟨g,0,none⟩))
 (zs:List Int)(hy:a.eval y= .agg (arr zs))(hz:Bytes zs)(hl:zs.length=n)(T':TypeId)(old:List Int)(hg:bP w g T' old)(hol:old.length=n)
 (K:∀w',bP w' g T' zs->dp w w' g->wpList P ops Q rest (a.put o.dst undef) w') :wpList P ops Q (o::rest) a w:=by
 refine wpList_store_row hgd T x y ho g (arr zs) hx hy T' (arr old) hg.1 (by rw[hT.size,iN,hl]) (by rw[iN,iN,hl,hol]) (JQ zs) ?_;exact K _ ⟨setRow_heap w g _ _ T' _ hg.1,hz⟩ ⟨_,rfl⟩
def lay (zs:List Int)(off:Nat)(ys:List Int) :List Int:=zs.take off++ (ys++zs.drop (off+ys.length))
theorem lG (zs:List Int)(off:Nat)(ys:List Int)(h:off+ys.length<=zs.length) : (lay zs off ys).length=zs.length:=by simp[lay];omega
theorem ot {zs ys:List Int}(off:Nat)(hz:Bytes zs)(hy:Bytes ys) :Bytes (lay zs off ys) := (hz.take off).append (hy.append (hz.drop _))
theorem lX (w:World)(g:Nat)(T:TypeId)(zs:List Int)(off:Nat)(ys:List Int)(hg:bP w g T zs)(hy:Bytes ys) :
 bP (w.setRow g ((arr zs).toList.take off++ (ys.map (Value.int .u8)) ++ (arr zs).toList.drop (off+ys.length)).toArray) g T (lay zs off ys) :=by
 refine⟨?_,ot off hg.2 hy⟩;rw[setRow_heap w g _ _ T _ hg.1];simp[arr,lay]
theorem gv (hgd:o.guard=none)(d x:Operand)(dT sT:TypeId)(ho:o.op= .call {callee:= .builtin .copy,args:= #[d,x],argTypes:= #[dT,sT]})
 (e:TypeId)(hT:P.underlying dT=some (.slice e))(he: (P.info? e).map (·.size) =some 1)
 (g off n cap:Nat)(hd:a.eval d= .slice (some ⟨g,off,none⟩) n cap)(s:ByteArray)(hx:a.eval x= .string s)(T:TypeId)(zs:List Int)(hg:bP w g T zs)(hl:s.size<=n)(hfit:off+s.size<=zs.length)
 (K:∀w',bP w' g T (lay zs off (af s))->dp w w' g->wpList P ops Q rest (a.put o.dst (goInt s.size)) w') :wpList P ops Q (o::rest) a w:=by
 refine wpList_plain hgd fun K' hK=>?_;have hlen: ((af s).map (Value.int .u8)).length=s.size:=by rw[List.length_map,an]
 have hst:=run_storeCells_at P g off T ((af s).map (Value.int .u8)) 0 (arr zs) w hg.1 (by rw[hlen,iN];omega) (iy _ _);have hmin:Nat.min s.size n=s.size:=Nat.min_eq_left hl
 have htk:List.take s.size (List.map (fun b:UInt8=>Value.int IntKind.u8 (b.toNat:Int)) s.data.toList) = (af s).map (Value.int .u8) :=by
  rw[List.take_of_length_le (by rw[List.length_map];exact Nat.le_refl _),cm,List.map_map];rfl
 rw[Nat.add_zero,List.length_map]at hst
 have hrun: (Builtin.copy_ #[dT,sT] o.type #[.slice (some ⟨g,off,none⟩) n cap,.string s]).run P w= .ok (goInt s.size) (w.setRow g ((arr zs).toList.take off++ ((af s).map (Value.int .u8)) ++ (arr zs).toList.drop (off+ (af s).length)).toArray) :=by
  cases hq:P.info? e with
  |none=>simp[hq]at he
  |some i=>
   have hs:i.size=1:=by simpa [hq]using he
   simp[Builtin.copy_,run_underlying hT,Builtin.lenOf,Builtin.firstCells,sizeOf,typeInfo,hq,hmin];rw[htk,hst];simp[Result.andThen,an]
 unfold Oper.wp;simp[execOp,ho,resolve,invoke,builtin,hd,hx,hrun,Result.andThen];exact hK _ _ (K _ (by simpa using lX w g T zs off (af s) hg (dw s)) ⟨_,rfl⟩)
theorem jG (hgd:o.guard=none)(d x:Operand)(dT sT:TypeId)(ho:o.op= .call {callee:= .builtin .copy,args:= #[d,x],argTypes:= #[dT,sT]})
 (e:TypeId)(hT:P.underlying dT=some (.slice e))(he: (P.info? e).map (·.size) =some 1)
 (g off n cap:Nat)(hd:a.eval d= .slice (some ⟨g,off,none⟩) n cap)(b:Option Addr)(m c:Nat)(hx:a.eval x= .slice b m c)(ys:List Int)(hy:BytesIn w b ys)(hm:ys.length=m)
 (T:TypeId)(zs:List Int)(hg:bP w g T zs)(hfit:off+n<=zs.length)
 (K:∀w',bP w' g T (lay zs off (ys.take n))->dp w w' g->wpList P ops Q rest (a.put o.dst (goInt (ys.take n).length)) w') :wpList P ops Q (o::rest) a w:=by
 have hmn: (ys.take n).length=Nat.min m n:=by rw[List.length_take,hm];exact Nat.min_comm _ _
 by_cases h0:Nat.min m n=0
 ·refine wpList_copy_nothing hgd d x dT sT ho e hT he _ _ _ _ _ _ hd hx h0 ?_;have e0:ys.take n= [] :=List.eq_nil_of_length_eq_zero (hmn.trans h0);have:=K w (by rw[e0];simpa [lay]using hg) ⟨arr zs,(setRow_self w g (arr zs) T (0,0) hg.1).symm⟩;rw[e0]at this;exact this
 ·rcases hy with hy|⟨b',off',rfl,_,hr⟩
  ·exfalso;apply h0;rw[<- hm,hy];exact Nat.zero_min _
  ·have hk:=wpList_copy_own (P:=P) (w:=w) (ops:=ops) (rest:=rest) (o:=o) (a:=a) (Q:=Q) hgd d x dT sT ho e hT he g off n cap ⟨b',off',none⟩ m c hd hx (arr zs) T hg.1 ((ys.take n).map (Value.int .u8)) (by rw[List.length_map];exact hmn)
    (fun j v hj=>hr.news j v (by
      rw[List.map_take,List.getElem?_take]at hj
      split at hj
      ·exact hj
      ·cases hj)) (by rw[List.length_map,iN,List.length_take];omega) (iy _ _)
   rw[List.length_map]at hk;refine hk (K _ ?_ ⟨_,rfl⟩);have:=lX w g T zs off (ys.take n) hg (Bytes.take hr.2 n)
   simpa using this
theorem dE (hgd:o.guard=none)(l c:Operand)(t e:TypeId)(ho:o.op= .makeSlice t l c)(ht:P.underlying t=some (.slice e))(i0:TypeInfo)(hI:Hid (P.info? e=some i0/\i0.zero=some (.int .u8 0)/\i0.size=1/\i0.bytes=1))
 (n:Nat)(hl:a.eval l= .int .i64 n)(hc:a.eval c= .int .i64 n)(hn:n<=140737488355328)
 (K:∀w',bP w' w.heap.size e (ao n)->Below w.heap.size w w'->wpList P ops Q rest (a.put o.dst (.slice (some ⟨w.heap.size,0,none⟩) n n)) w') :wpList P ops Q (o::rest) a w:=by
 refine wpList_make_full w hgd l c t ho w.heap.size e i0 (.int .u8 0) 1 ht hI.out.1 hI.out.2.1 hI.out.2.2.1 .i64 .i64 n n n hl hc rfl rfl (by rw[hI.out.2.2.2];omega) (by unfold maxLen;omega) (Nat.le_refl _) ?_;intro w' h1 h2
 have hm: (madeCells (Value.int .u8 0).cells (n*1)).toList= (ao n).map (.int .u8) :=by
  apply List.ext_getElem?;intro i;by_cases h:i<n<;>simp[ao,madeCells,Value.cells,h,Nat.mod_one]
 rw[hm]at h1;exact K w' (.bJ h1 (cZ n)) ((Below.refl _ _).grown h2 (Nat.le_refl _) (fun _ h=>by cases h))
theorem pK (hgd:o.guard=none)(t e:TypeId)(ho:o.op= .buildSlice t 0 #[])(ht:P.underlying t=some (.slice e))(he: (P.info? e).map (·.size) =some 1)
 (K:∀w',w'.ownsRow w.heap.size e 1 (.slice (some ⟨w.heap.size,0,none⟩) 0 0) 0 (([] :List Int).map (.int .u8))->Below w.heap.size w w'->wpList P ops Q rest (a.put o.dst (.slice (some ⟨w.heap.size,0,none⟩) 0 0)) w') :wpList P ops Q (o::rest) a w:=by
 refine wpList_plain hgd fun K' hK=>?_
 cases hq:P.info? e with
 |none=>simp[hq]at he
 |some i=>
  have hrun: (Instr.buildSlice t 0 #[]).run P w= .ok (.slice (some ⟨w.heap.size,0,none⟩) 0 0) (w.alloc (.cells #[] e)) :=by
   simp[Instr.buildSlice,run_underlying ht,sizeOf,typeInfo,hq,Instr.fill,newRow];rw[show Array.range 0= #[] by decide,Array.map_empty]
  unfold Oper.wp;simp[execOp,ho,hrun,Result.andThen];exact hK _ _ (K _ (World.ownsRow_lit w #[] 0 (Nat.le_refl _) (Nat.zero_le _) rfl) ((Below.refl _ _).alloc (Nat.le_refl _) _))
theorem qU (hgd:o.guard=none)(t e:TypeId)(x:Operand)(ho:o.op= .buildSlice t 1 #[(0,x)])(ht:P.underlying t=some (.slice e))(hI: (P.info? e).map (fun i=> (i.zero,i.size,i.bytes)) =some (some (.int .u8 0),1,1))
 (c:Int)(hx:a.eval x= .int .u8 c)(hc:0<=c/\c<=255)
 (K:∀w',bP w' w.heap.size e [c]->Below w.heap.size w w'->wpList P ops Q rest (a.put o.dst (.slice (some ⟨w.heap.size,0,none⟩) 1 1)) w') :wpList P ops Q (o::rest) a w:=by
 refine wpList_plain hgd fun K' hK=>?_
 cases hq:P.info? e with
 |none=>simp[hq]at hI
 |some i=>
  simp[hq]at hI
  have hrun: (Instr.buildSlice t 1 #[(0,.int .u8 c)]).run P w= .ok (.slice (some ⟨w.heap.size,0,none⟩) 1 1) (w.alloc (.cells #[.int .u8 c] e)) :=by
   simp[Instr.buildSlice,run_underlying ht,sizeOf,typeInfo,zeroValue,hq,hI.1,hI.2.1,Instr.fill,newRow,Value.cells];rw[show Array.range 1= #[0] by decide];simp
  unfold Oper.wp;simp[execOp,ho,hx,hrun,Result.andThen];refine hK _ _ (K _ ⟨heap_alloc_new w _,fun z hz=>?_⟩ ((Below.refl _ _).alloc (Nat.le_refl _) _));obtain rfl:z=c:=by simpa using hz
  exact hc
theorem sv {T e:TypeId}{n:Nat}(hT:jR P T e n)(zs:List Int)(hl:zs.length=n)(i:Nat)(hi:i<n) :
 (Instr.index T (.agg (arr zs)) (.int .i64 i)).run P w= .ok (.int .u8 (zs.getD i 0)) w:=by
 have he:=hT.elem
 have hagg: (isAgg e).run P w= .ok false w:=by
  unfold isAgg;rw[Sem.run_bind,run_underlying hT.2.2.1 w];simp
 cases hq:P.info? e with
 |none=>simp[hq]at he
 |some j=>
  have hs:j.size=1:=by simpa [hq]using he
  have hg:=qk (zs:=zs) (i:=i) (by omega);simp[Instr.index,asIntOf,run_underlying hT.1,hi,sizeOf,typeInfo,hq,hs,part,hagg,hg]
theorem jP (d:Nat){e:TypeId}(he:P.underlying e=some (.int .u8))(xs ys:List Int)(hl:xs.length=ys.length) :∀(m k:Nat),k+m=xs.length->
 (Op.eqItems (d+1) e 1 (arr xs) (arr ys) (List.range' k m)).run P w= .ok (decide (xs.drop k=ys.drop k)) w
 |0,k,h=>by
  rw[List.drop_eq_nil_of_le (by omega),List.drop_eq_nil_of_le (by omega)];simp[Op.eqItems]
 |m+1,k,h=>by
  have ih:=jP d he xs ys hl m (k+1) (by omega)
  have hagg: (isAgg e).run P w= .ok false w:=by
   unfold isAgg;rw[Sem.run_bind,run_underlying he w];simp
  have hx:xs.drop k=xs.getD k 0::xs.drop (k+1) :=by
   rw[List.drop_eq_getElem_cons (by omega),List.getD_eq_getElem?_getD,List.getElem?_eq_getElem (by omega)];rfl
  have hy:ys.drop k=ys.getD k 0::ys.drop (k+1) :=by
   rw[List.drop_eq_getElem_cons (by omega),List.getD_eq_getElem?_getD,List.getElem?_eq_getElem (by omega)];rfl
  rw[List.range'_succ,hx,hy];simp only[Op.eqItems,part,Sem.run_bind,hagg,Result.andThen_ok,Nat.mul_one,qk (show k<xs.length by omega),qk (show k<ys.length by omega),Sem.run_pure,Bool.false_eq_true,if_false,Sem.run_ite];rw[run_equalIn_int w d e .u8 .u8 _ _ he];simp only[Result.andThen_ok];by_cases hc:xs.getD k 0=ys.getD k 0
  ·have hb: (xs.getD k 0==ys.getD k 0) =true:=by simpa using hc
   rw[hb];simp only[Bool.not_true,Bool.false_eq_true,if_false,ih];rw[hc];simp
  ·have hb: (xs.getD k 0==ys.getD k 0) =false:=by simpa using hc
   rw[hb];simp only[Bool.not_false,if_true];have:¬(xs.getD k 0::xs.drop (k+1) =ys.getD k 0::ys.drop (k+1)) :=fun e=>hc (List.cons.inj e).1;rw[decide_eq_false this]
theorem pB {T e:TypeId}{n:Nat}(hT:jR P T e n)(xs ys:List Int)(hx:xs.length=n)(hy:ys.length=n) :
 (binOp .neq T (.agg (arr xs)) (.agg (arr ys))).run P w= .ok (.bool (!decide (xs=ys))) w:=by
 rw[run_neq_struct w T];have he:=hT.elem
 cases hq:P.info? e with
 |none=>simp[hq]at he
 |some i=>
  have hs:P.cellsOf e=1:=by simpa [Program.cellsOf,hq]using he
  rw[run_equalIn_array w 9999 _ _ hT.1 hq,hs,List.range_eq_range',jP 9998 hT.2.2.1 xs ys (by omega) n 0 (by omega)];simp[Result.andThen]
theorem jE {fn:Func}{p q:Tmp}{T e:TypeId}{n:Nat}(h:fn.results= #[.cell p T,.tmp q])(hT:jR P T e n)(tmps:Array Value)(g:Nat)(hp:tmps.getD p undef= .pointer (some ⟨g,0,none⟩))
 (T':TypeId)(zs:List Int)(hg:bP w g T' zs)(hl:zs.length=n) : (results fn tmps).run P w= .ok (.tuple #[.agg (arr zs),tmps.getD q undef]) w:=by
 have hp':tmps[p]?.getD undef= .pointer (some ⟨g,0,none⟩) :=by simpa using hp
 simp[results,h,hp',asAddr,gz hT g 0 zs hg.row hl]
theorem wW {fn:Func}{p:Tmp}{T e:TypeId}{n:Nat}(h:fn.results= #[.cell p T])(hT:jR P T e n)(tmps:Array Value)(g:Nat)(hp:tmps.getD p undef= .pointer (some ⟨g,0,none⟩))
 (T':TypeId)(zs:List Int)(hg:bP w g T' zs)(hl:zs.length=n) : (results fn tmps).run P w= .ok (.agg (arr zs)) w:=by
 have hp':tmps[p]?.getD undef= .pointer (some ⟨g,0,none⟩) :=by simpa using hp
 simp[results,h,hp',asAddr,gz hT g 0 zs hg.row hl]
end
end Go.Proofs.YtcjagakckffkiaaGreatDoor
