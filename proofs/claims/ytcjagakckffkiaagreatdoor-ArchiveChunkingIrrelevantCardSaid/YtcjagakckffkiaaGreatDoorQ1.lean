import Derived.Test.YtcjagakckffkiaaGreatDoorQ0
import Derived.Deep.RegionHeld3
import Derived.Deep.AppendLies
import Derived.Laws.Cover1
import Derived.Deep.RegionHeld
import Derived.Lib.ItoaNum
set_option maxHeartbeats 16000000
namespace Go.Proofs.YtcjagakckffkiaaGreatDoor
open Go.RowKit
structure Out (lo hi:Nat) (w w':World) :Prop where
 os:w'.os=w.os
 tape:w'.tape=w.tape
 output:w'.output=w.output
 size:w.heap.size<=w'.heap.size
 block:∀k,k<w.heap.size-> (k<lo\/hi<=k)->w'.heap[k]? =w.heap[k]?
theorem Out.refl (lo hi:Nat)(w:World) :Out lo hi w w:=⟨rfl,rfl,rfl,Nat.le_refl _,fun _ _ _=>rfl⟩
theorem Out.trans {lo hi:Nat}{a b c:World}(h:Out lo hi a b)(k:Out lo hi b c) :Out lo hi a c:=
 ⟨k.os.trans h.os,k.tape.trans h.tape,k.output.trans h.output,Nat.le_trans h.size k.size,fun i hi hj=> (k.block i (Nat.lt_of_lt_of_le hi h.size) hj).trans (h.block i hi hj)⟩
theorem Out.aq {lo hi B:Nat}{w w':World}(h:Below B w w')(hB:w.heap.size<=B) :Out lo hi w w':=⟨h.os,h.tape,h.output,h.size,fun k hk _=>h.block k (Nat.lt_of_lt_of_le hk hB)⟩
theorem Out.below {lo hi B:Nat}{w w':World}(h:Out lo hi w w')(hB:B<=lo)(hw:B<=w.heap.size) :Below B w w':=⟨h.os,h.tape,h.output,h.size,fun k hk=>h.block k (Nat.lt_of_lt_of_le hk hw) (.inl (Nat.lt_of_lt_of_le hk hB))⟩
theorem Out.drew {lo hi:Nat}{a w:World}(h:Out lo hi a w) :Out lo hi a w.drew:=⟨h.os,h.tape,h.output,h.size,h.block⟩
theorem Out.setCell {lo hi:Nat}{a w:World}(h:Out lo hi a w){p:Addr}(h1:lo<=p.block)(h2:p.block<hi)(v:Value) :Out lo hi a (w.setCell p v) :=
 ⟨h.os,h.tape,h.output,by simpa [World.setCell]using h.size,fun k hk hj=> (Below.heap_setCell w p v k (by omega)).trans (h.block k hk hj)⟩
theorem Out.aD {lo hi g:Nat}{w w':World}(h:dp w w' g)(h1:lo<=g)(h2:g<hi) :Out lo hi w w':=by
 have hs:=h.size;have ho:=fun k=>h.other (k:=k);obtain⟨cs,rfl⟩:=h;exact⟨rfl,rfl,rfl,by omega,fun k _ hj=>ho k (by omega)⟩
theorem Out.wide {lo hi lo' hi':Nat}{w w':World}(h:Out lo hi w w')(h1:lo'<=lo)(h2:hi<=hi') :Out lo' hi' w w':=⟨h.os,h.tape,h.output,h.size,fun k hk hj=>h.block k hk (by omega)⟩
def ak (w:World)(g:Nat)(T:TypeId)(vs:List Value) :Prop:=w.heap[g]? =some (.cells vs.toArray T (0,0))
theorem ak.lt {w:World}{g:Nat}{T:TypeId}{vs:List Value}(h:ak w g T vs) :g<w.heap.size:=by
 rcases Nat.lt_or_ge g w.heap.size with hl|hl
 ·exact hl
 ·rw[ak,Array.getElem?_eq_none hl]at h;cases h
theorem ak.below {w w':World}{B g:Nat}{T:TypeId}{vs:List Value}(h:ak w g T vs)(hb:Below B w w')(hg:g<B) :ak w' g T vs:= (hb.block g hg).trans h
theorem ak.out {w w':World}{lo hi g:Nat}{T:TypeId}{vs:List Value}(h:ak w g T vs)(ho:Out lo hi w w')(hg:g<lo\/hi<=g) :ak w' g T vs:= (ho.block g h.lt hg).trans h
theorem ak.aD {w w':World}{g k:Nat}{T:TypeId}{vs:List Value}(h:ak w k T vs)(ht:dp w w' g)(hk:k≠g) :ak w' k T vs:= (ht.other hk).trans h
theorem ak.cell {w:World}{g:Nat}{T:TypeId}{vs:List Value}(h:ak w g T vs)(i:Nat) :w.cell? ⟨g,i,none⟩=vs[i]? :=by
 rw[cell_of_row w g i _ _ _ h];simp
theorem ak.get {w:World}{g:Nat}{T:TypeId}{vs:List Value}(h:ak w g T vs)(i:Nat){v:Value}(hv:vs[i]? =some v) :w.cell? ⟨g,i,none⟩=some v:= (h.cell i).trans hv
theorem ak.frozen {w:World}{g:Nat}{T:TypeId}{vs:List Value}(h:ak w g T vs)(i:Nat) :w.frozen? ⟨g,i,none⟩=false:=frozen_of_row w g i _ T h
theorem ak.set {w:World}{g:Nat}{T:TypeId}{vs:List Value}(h:ak w g T vs)(i:Nat)(v:Value) :ak (w.setCell ⟨g,i,none⟩ v) g T (vs.set i v) :=by
 unfold ak;rw[Go.heap_setCell_same w g i vs.toArray T v h]
 congr 2
 simp
theorem ak.sW {w:World}{g k:Nat}{T:TypeId}{vs:List Value}(h:ak w k T vs)(i:Nat)(v:Value)(hk:k≠g) :ak (w.setCell ⟨g,i,none⟩ v) k T vs:=
 (Below.heap_setCell w ⟨g,i,none⟩ v k hk).trans h
def eJ (k:IntKind)(w:World)(a:Option Addr)(zs:List Int) :Prop:=
 zs= []\/∃b off,a=some ⟨b,off,none⟩/\b<w.heap.size/\∀i,i<zs.length->w.cell? ⟨b,off+i,none⟩=some (.int k (zs.getD i 0))
theorem aB.Bu {k:IntKind}{w:World}{a:Option Addr}{len cap:Nat}{zs:List Int}(h:aB k w a len cap zs) :eJ k w a zs:=by
 obtain⟨h1,_,_,_,h5⟩:=h;rcases h5 with h5|h5
 ·exact .inl (List.length_eq_zero_iff.1 (h1.trans h5))
 ·exact .inr h5
theorem BytesIn.Bu {w:World}{a:Option Addr}{zs:List Int}(h:BytesIn w a zs) :eJ .u8 w a zs:=by
 rcases h with h|⟨b,off,h1,h2,h3⟩
 ·exact .inl h
 ·exact .inr ⟨b,off,h1,h2,h3.1⟩
theorem eJ.bytes {w:World}{a:Option Addr}{zs:List Int}(h:eJ .u8 w a zs)(hz:Bytes zs) :BytesIn w a zs:=by
 rcases h with h|⟨b,off,h1,h2,h3⟩
 ·exact .inl h
 ·exact .inr ⟨b,off,h1,h2,h3,hz⟩
theorem eJ.block {k:IntKind}{w w':World}{a:Option Addr}{zs:List Int}(h:eJ k w a zs)(hs:w.heap.size<=w'.heap.size)(e:∀x,a=some x->x.block<w.heap.size->w'.heap[x.block]? =w.heap[x.block]?) :eJ k w' a zs:=by
 rcases h with h|⟨b,off,h1,h2,h3⟩
 ·exact .inl h
 ·exact .inr ⟨b,off,h1,Nat.lt_of_lt_of_le h2 hs,fun i hi=> (World.cell?_of_block (a:=⟨b,off+i,none⟩) (show w'.heap[b]? =w.heap[b]? from e _ h1 h2)).trans (h3 i hi)⟩
theorem eJ.below {k:IntKind}{w w':World}{a:Option Addr}{zs:List Int}(h:eJ k w a zs)(hb:Below w.heap.size w w') :eJ k w' a zs:=h.block hb.size fun _ _ h=>hb.block _ h
theorem eJ.out {k:IntKind}{w w':World}{a:Option Addr}{zs:List Int}{lo hi:Nat}(h:eJ k w a zs)(ho:Out lo hi w w')(e:∀x,a=some x->x.block<lo\/hi<=x.block) :eJ k w' a zs:=h.block ho.size fun x hx hl=>ho.block _ hl (e x hx)
theorem eJ.set {k:IntKind}{w:World}{a:Option Addr}{zs:List Int}{g i:Nat}(h:eJ k w a zs)(v:Value)(e:∀x,a=some x->x.block≠g) :eJ k (w.setCell ⟨g,i,none⟩ v) a zs:=
 h.block (by simp[World.setCell]) fun x hx _=>Below.heap_setCell w ⟨g,i,none⟩ v _ (e x hx)
theorem eJ.get {k:IntKind}{w:World}{b off:Nat}{zs:List Int}(h:eJ k w (some ⟨b,off,none⟩) zs)(i:Nat)(hi:i<zs.length) :w.cell? ⟨b,off+i,none⟩=some (.int k (zs.getD i 0)) :=by
 rcases h with h|⟨b',off',h1,_,h3⟩
 ·rw[h]at hi;cases hi
 ·cases h1;exact h3 i hi
theorem eJ.plain {k:IntKind}{w:World}{a:Option Addr}{zs:List Int}(h:eJ k w a zs)(hp:0<zs.length) :∃b off,a=some ⟨b,off,none⟩/\b<w.heap.size:=by
 rcases h with h|⟨b,off,h1,h2,_⟩
 ·rw[h]at hp;cases hp
 ·exact⟨b,off,h1,h2⟩
theorem eJ.bJ {k:IntKind}{w:World}{base g n cap:Nat}{e:TypeId}{zs:List Int}(h:w.ownsRow base e 1 (.slice (some ⟨g,0,none⟩) n cap) n (zs.map (.int k))) :eJ k w (some ⟨g,0,none⟩) zs:=by
 refine .inr ⟨g,0,rfl,(lU h).2,fun i hi=>?_⟩;have hl:=h.1;rw[List.length_map]at hl;rw[Nat.zero_add,h.cellAt i (by omega),List.getElem?_map,List.getElem?_eq_getElem hi,List.getD_eq_getElem?_getD,List.getElem?_eq_getElem hi];rfl
theorem BytesIn.block {w w':World}{a:Option Addr}{zs:List Int}(h:BytesIn w a zs)(hs:w.heap.size<=w'.heap.size)(e:∀x,a=some x->x.block<w.heap.size->w'.heap[x.block]? =w.heap[x.block]?) :BytesIn w' a zs:= (h.Bu.block hs e).bytes h.bytes
theorem BytesIn.out {w w':World}{a:Option Addr}{zs:List Int}{lo hi:Nat}(h:BytesIn w a zs)(ho:Out lo hi w w')(e:∀x,a=some x->x.block<lo\/hi<=x.block) :BytesIn w' a zs:=h.block ho.size fun x hx hl=>ho.block _ hl (e x hx)
theorem BytesIn.set {w:World}{a:Option Addr}{zs:List Int}{g i:Nat}(h:BytesIn w a zs)(v:Value)(e:∀x,a=some x->x.block≠g) :BytesIn (w.setCell ⟨g,i,none⟩ v) a zs:=
 h.block (by simp[World.setCell]) fun x hx _=>Below.heap_setCell w ⟨g,i,none⟩ v _ (e x hx)
theorem BytesIn.take {w:World}{a:Option Addr}{zs:List Int}(h:BytesIn w a zs)(n:Nat) :BytesIn w a (zs.take n) :=by
 rcases h with h|⟨b,off,h1,h2,h3⟩
 ·rw[h];exact .inl (by simp)
 ·exact .inr ⟨b,off,h1,h2,h3.take n⟩
section
variable {P:Program} {w:World} {ops:Array Oper} {rest:List Oper} {o:Oper} {a:Act} {Q:Exit->Act->World->Prop}
theorem aj (hgd:o.guard=none)(T:TypeId)(x:Operand)(ho:o.op= .box T x)(vs:List Value)(hx:a.eval x= .agg vs.toArray)
 (K:∀w',ak w' w.heap.size T vs->Below w.heap.size w w'->wpList P ops Q rest (a.put o.dst (.pointer (some ⟨w.heap.size,0,none⟩))) w') :wpList P ops Q (o::rest) a w:=by
 refine wpList_plain hgd fun K' hK=>?_;unfold Oper.wp;simp[execOp,ho,hx,Instr.box,newVar,newRow,Result.andThen,Value.cells];exact hK _ _ (K _ (heap_alloc_new w _) ((Below.refl _ _).alloc (Nat.le_refl _) _))
theorem ag (hgd:o.guard=none)(T:TypeId)(ho:o.op= .alloc T)(vs:List Value)(hz: (P.info? T).map (·.zero) =some (some (.agg vs.toArray)))
 (K:∀w',ak w' w.heap.size T vs->Below w.heap.size w w'->wpList P ops Q rest (a.put o.dst (.pointer (some ⟨w.heap.size,0,none⟩))) w') :wpList P ops Q (o::rest) a w:=by
 refine wpList_plain hgd fun K' hK=>?_
 cases hq:P.info? T with
 |none=>simp[hq]at hz
 |some i=>
  simp[hq]at hz;unfold Oper.wp;simp[execOp,ho,Instr.alloc,zeroValue,typeInfo,hq,hz,newVar,newRow,Result.andThen,Value.cells];exact hK _ _ (K _ (heap_alloc_new w _) ((Below.refl _ _).alloc (Nat.le_refl _) _))
theorem ae (hgd:o.guard=none)(T:TypeId)(x y:Operand)(ho:o.op= .store T x y)(g:Nat)(hx:a.eval x= .pointer (some ⟨g,0,none⟩))
 (vs old:List Value)(hy:a.eval y= .agg vs.toArray)(T':TypeId)(hg:ak w g T' old)(hs: (P.info? T).map (·.size) =some vs.length)(hl:old.length=vs.length)(h1:∀v∈vs,v.oneCell'=true)
 (K:∀w',ak w' g T' vs->dp w w' g->wpList P ops Q rest (a.put o.dst undef) w') :wpList P ops Q (o::rest) a w:=by
 refine wpList_store_row hgd T x y ho g vs.toArray hx hy T' old.toArray hg (by simpa using hs) (by simpa using hl) ?_ ?_
 ·rw[Array.all_eq_true_iff_forall_mem];intro u hu;exact h1 u (by simpa using hu)
 ·exact K _ (setRow_heap w g _ _ T' _ hg) ⟨_,rfl⟩
theorem Mr {k:IntKind}{w:World}{b off:Nat}{zs:List Int}(h:∀i,i<zs.length->w.cell? ⟨b,off+i,none⟩=some (.int k (zs.getD i 0))) :∀j u,(zs.map (Value.int k))[j]? =some u->w.cell? ((⟨b,off,none⟩:Addr).add j) =some u:=by
 intro j u hj
 have hl:j<zs.length:=by
  rcases Nat.lt_or_ge j zs.length with h|h
  ·exact h
  ·rw[List.getElem?_eq_none (by simpa using h)]at hj;cases hj
 rw[dC,h j hl];rw[List.getElem?_map,List.getElem?_eq_getElem hl]at hj;rw[List.getD_eq_getElem?_getD,List.getElem?_eq_getElem hl];exact hj
def pC (P:Program)(e:TypeId)(k:IntKind)(B:Nat) :Prop:=∃i0,P.info? e=some i0/\i0.zero=some (.int k 0)/\i0.size=1/\i0.bytes=B
theorem Mm {e:TypeId}{k:IntKind}{B:Nat}(h: (P.info? e).map (fun i=> (i.zero,i.size,i.bytes)) =some (some (.int k 0),1,B)) :pC P e k B:=by
 cases hq:P.info? e with
 |none=>simp[hq]at h
 |some i=>simp[hq]at h;exact⟨i,hq,h.1,h.2.1,h.2.2⟩
theorem vu (base:Nat)(t ty e:TypeId)(k:IntKind)(B:Nat)(hT:P.underlying t=some (.slice e))(hI:pC P e k B)
 (v:Value)(n:Nat)(zs:List Int)(hown:w.ownsRow base e 1 v n (zs.map (.int k)))
 (b:Option Addr)(m c:Nat)(ys:List Int)(hy:eJ k w b ys)(hl:ys.length=m)(h63:n+m<=maxLen)(h47: (n+m) *B<=140737488355328)(hbase:base<=w.heap.size) :
 ∃v' w',(Builtin.append_ #[t,t] ty #[v,.slice b m c]).run P w= .ok v' w'/\w'.ownsRow base e 1 v' (n+m) ((zs++ys).map (.int k))/\Below base w w':=by
 obtain⟨i0,h1,h2,h3,h4⟩:=hI;rcases hy with hy|⟨b',off,rfl,_,hy⟩
 ·subst hy;obtain rfl:m=0:=hl.symm;exact⟨v,w,ew (P:=P) w base t ty e i0 1 hT h1 v n _ hown b c,by simpa using hown,Below.refl _ _⟩
 ·obtain⟨v',w',hr,ho,hg,_⟩:=run_append_own (P:=P) w base t ty e i0 (.int k 0) 1 B hT h1 h2 h3 h4 rfl (by decide) v n _ hown ⟨b',off,none⟩ m c (ys.map (.int k)) (by rw[List.length_map,hl,Nat.mul_one]) (Mr hy) (iy _ _) h63 h47 hbase;exact⟨v',w',hr,by rw[List.map_append];exact ho,(Below.refl _ _).grown hg hbase (tx hown)⟩
theorem dD (hgd:o.guard=none)(s x:Operand)(t:TypeId)
 (ho:o.op= .call {callee:= .builtin .append,args:= #[s,x],argTypes:= #[t,t]})
 (base:Nat)(e:TypeId)(k:IntKind)(B:Nat)(hT:P.underlying t=some (.slice e))(hI:pC P e k B)
 (v:Value)(n:Nat)(zs:List Int)(hs:a.eval s=v)(hown:w.ownsRow base e 1 v n (zs.map (.int k)))
 (b:Option Addr)(m c:Nat)(ys:List Int)(hx:a.eval x= .slice b m c)(hy:eJ k w b ys)(hl:ys.length=m)(h63:n+m<=maxLen)(h47: (n+m) *B<=140737488355328)(hbase:base<=w.heap.size)
 (K:∀v' w',w'.ownsRow base e 1 v' (n+m) ((zs++ys).map (.int k))->Below base w w'->wpList P ops Q rest (a.put o.dst v') w') :wpList P ops Q (o::rest) a w:=by
 obtain⟨v',w',hr,h1,h2⟩:=vu (P:=P) (w:=w) base t o.type e k B hT hI v n zs hown b m c ys hy hl h63 h47 hbase;refine wpList_plain hgd fun K' hK=>?_;unfold Oper.wp;simp[execOp,ho,resolve,invoke,builtin,hs,hx,hr,Result.andThen];exact hK _ _ (K _ _ h1 h2)
theorem pH (hgd:o.guard=none)(x y z:Operand)(ts:Array TypeId)(ho:o.op= .call {callee:= .builtin .min,args:= #[x,y,z],argTypes:=ts})(k k' k'':IntKind)(p q s m:Int)
 (hx:a.eval x= .int k p)(hy:a.eval y= .int k' q)(hz:a.eval z= .int k'' s)(hm:min (min p q) s=m)(K:wpList P ops Q rest (a.put o.dst (.int k m)) w) :wpList P ops Q (o::rest) a w:=by
 have hv: (if s< (if q<p then q else p)then s else(if q<p then q else p)) =m:=by rw[<- hm];split<;>split at* <;>omega
 have hrun: (Builtin.min_ ts o.type #[.int k p,.int k' q,.int k'' s]).run P w= .ok (.int k m) w:=by rw[run_min_int3,hv]
 refine wpList_plain hgd fun K' hK=>?_;unfold Oper.wp;simp[execOp,ho,resolve,invoke,builtin,hx,hy,hz,hrun,Result.andThen];exact hK _ _ K
theorem xz (hgd:o.guard=none)(x y:Operand)(ts:Array TypeId)(ho:o.op= .call {callee:= .builtin .min,args:= #[x,y],argTypes:=ts})(k k':IntKind)(p q m:Int)
 (hx:a.eval x= .int k p)(hy:a.eval y= .int k' q)(hm:min p q=m)(K:wpList P ops Q rest (a.put o.dst (.int k m)) w) :wpList P ops Q (o::rest) a w:=by
 have hv: (if q<p then q else p) =m:=by rw[<- hm];split<;>omega
 have hrun: (Builtin.min_ ts o.type #[.int k p,.int k' q]).run P w= .ok (.int k m) w:=by rw[run_min_int2,hv]
 refine wpList_plain hgd fun K' hK=>?_;unfold Oper.wp;simp[execOp,ho,resolve,invoke,builtin,hx,hy,hrun,Result.andThen];exact hK _ _ K
theorem lE (hgd:o.guard=none)(l c:Operand)(t e:TypeId)(k:IntKind)(B:Nat)(ho:o.op= .makeSlice t l c)(ht:P.underlying t=some (.slice e))(hI:pC P e k B)
 (n:Nat)(hl:a.eval l= .int .i64 n)(hc:a.eval c= .int .i64 n)(hn:n*B<=140737488355328)(hm:n<=maxLen)
 (K:∀w',ak w' w.heap.size e ((ao n).map (.int k))->Below w.heap.size w w'->wpList P ops Q rest (a.put o.dst (.slice (some ⟨w.heap.size,0,none⟩) n n)) w') :wpList P ops Q (o::rest) a w:=by
 obtain⟨i0,h1,h2,h3,h4⟩:=hI;refine wpList_make_full w hgd l c t ho w.heap.size e i0 (.int k 0) 1 ht h1 h2 h3 .i64 .i64 n n n hl hc rfl rfl (by rw[h4,Nat.mul_comm];omega) hm (Nat.le_refl _) ?_;intro w' h1 h2
 have hm: (madeCells (Value.int k 0).cells (n*1)).toList= (ao n).map (.int k) :=by
  apply List.ext_getElem?;intro i;by_cases h:i<n<;>simp[ao,madeCells,Value.cells,h,Nat.mod_one]
 rw[hm]at h1;refine K w' ?_ ((Below.refl _ _).grown h2 (Nat.le_refl _) (fun _ h=>by cases h));obtain⟨h1,h2⟩:=h1;rcases h2 with⟨h2,_⟩|⟨g',cap',cur,hv,_,hh,_,_,hcs,htake⟩
 ·simp at h2
 ·simp only[Value.slice.injEq,Option.some.injEq,Addr.mk.injEq,and_true,true_and]at hv;obtain⟨rfl,rfl⟩:=hv
  have:cur= ((ao n).map (Value.int k)).toArray:=by
   apply Array.ext';rw[<- htake,List.take_of_length_le (by simp;omega)]
  rw[ak,<- this];exact hh
theorem Gb (w:World)(e:TypeId)(k:IntKind) : (w.alloc (.cells #[] e)).ownsRow w.heap.size e 1 (.slice (some ⟨w.heap.size,0,none⟩) 0 0) 0 (([] :List Int).map (.int k)) :=
 World.ownsRow_lit w #[] 0 (Nat.le_refl _) (Nat.zero_le _) rfl
theorem jh (hgd:o.guard=none)(t e:TypeId)(k:IntKind)(ho:o.op= .buildSlice t 0 #[])(ht:P.underlying t=some (.slice e))(he: (P.info? e).map (·.size) =some 1)
 (K:∀w',w'.ownsRow w.heap.size e 1 (.slice (some ⟨w.heap.size,0,none⟩) 0 0) 0 (([] :List Int).map (.int k))->Below w.heap.size w w'->wpList P ops Q rest (a.put o.dst (.slice (some ⟨w.heap.size,0,none⟩) 0 0)) w') :wpList P ops Q (o::rest) a w:=by
 refine wpList_plain hgd fun K' hK=>?_
 cases hq:P.info? e with
 |none=>simp[hq]at he
 |some i=>
  have hrun: (Instr.buildSlice t 0 #[]).run P w= .ok (.slice (some ⟨w.heap.size,0,none⟩) 0 0) (w.alloc (.cells #[] e)) :=by
   simp[Instr.buildSlice,run_underlying ht,sizeOf,typeInfo,hq,Instr.fill,newRow];rw[show Array.range 0= #[] by decide,Array.map_empty]
  unfold Oper.wp;simp[execOp,ho,hrun,Result.andThen];exact hK _ _ (K _ (Gb w e k) ((Below.refl _ _).alloc (Nat.le_refl _) _))
end
theorem bl {k:IntKind}{w:World}{base n:Nat}{e:TypeId}{v:Value}{zs:List Int}(h:w.ownsRow base e 1 v n (zs.map (.int k))) :
 ∃b cap,v= .slice b n cap/\eJ k w b zs/\n<=cap/\cap<=maxLen/\zs.length=n/\∀x,b=some x->base<=x.block/\x.block<w.heap.size/\x.spot=none:=by
 have hl:=h.1;rw[List.length_map,Nat.mul_one]at hl;rcases h.2 with⟨rfl,rfl⟩|⟨g,cap,cur,rfl,hb,hg,hc,hm,_⟩
 ·exact⟨none,0,rfl,.inl (List.length_eq_zero_iff.1 hl),Nat.le_refl _,by unfold maxLen;omega,hl,fun _ h=>by cases h⟩
 ·exact⟨_,cap,rfl,.bJ h,hc,hm,hl,fun x hx=>by cases hx;exact⟨hb,(lU h).2,rfl⟩⟩
theorem iW (lo hi:Nat)(w:World)(n:Nat) :Out lo hi w (w.drewN n) :=⟨rfl,rfl,rfl,Nat.le_refl _,fun _ _ _=>rfl⟩
theorem eg {w:World}{base base' n:Nat}{e:TypeId}{v:Value}{xs:List Value}(h:w.ownsRow base e 1 v n xs)(hb:base'<=base) :w.ownsRow base' e 1 v n xs:=by
 obtain⟨h1,h2⟩:=h;refine⟨h1,h2.imp id ?_⟩;rintro⟨g,cap,cur,hv,hbg,r⟩;exact⟨g,cap,cur,hv,Nat.le_trans hb hbg,r⟩
theorem kA (w:World)(base:Nat)(e:TypeId)(k:IntKind) :w.ownsRow base e 1 (.slice none 0 0) 0 (([] :List Int).map (.int k)) :=⟨rfl,.inl ⟨rfl,rfl⟩⟩
theorem vq {w w':World}{base lo hi n:Nat}{e:TypeId}{v:Value}{xs:List Value}(h:w.ownsRow base e 1 v n xs)(ho:Out lo hi w w')(hb:hi<=base) :w'.ownsRow base e 1 v n xs:=by
 obtain⟨h1,h2⟩:=h;refine⟨h1,h2.imp id ?_⟩;rintro⟨g,cap,cur,hv,hbg,hg,r⟩
 have hlt:g<w.heap.size:=by
  rcases Nat.lt_or_ge g w.heap.size with hl|hl
  ·exact hl
  ·rw[Array.getElem?_eq_none hl]at hg;cases hg
 exact⟨g,cap,cur,hv,hbg,(ho.block g hlt (.inr (Nat.le_trans hb hbg))).trans hg,r⟩
theorem nC {B h:Nat}{w w':World}(hb:Below B w w') :Out B (w'.heap.size+h) w w':=⟨hb.os,hb.tape,hb.output,hb.size,fun k hk hj=>hb.block k (by have:=hb.size;omega)⟩
theorem aO (B:Nat)(w:World)(n:Nat) :Below B w (w.drewN n) :=⟨rfl,rfl,rfl,Nat.le_refl _,fun _ _=>rfl⟩
end Go.Proofs.YtcjagakckffkiaaGreatDoor
namespace Go.Proofs.YtcjagakckffkiaaGreatDoor
open Go.RowKit
section
variable {P:Program} {md:Region.Mode} {ops:Array Oper} {Q:Exit->Act->World->Prop} {S:World->Prop} {fuel:Nat} {listed:Array Bool} {a:Act} {w:World}
theorem tk (i:Nat){oi:Oper}{v:Value}(h:wpAnyH P md ops Q S fuel (listed.setIfInBounds i true) (a.put oi.dst v) w)
 (hi:ops[i]? =some oi:=by(simp only[List.getElem?_toArray,List.getElem?_cons_succ,List.getElem?_cons_zero]) <;>rfl)(hs:Region.noSelect ops=true:=by kernel_rfl)(hf:Region.free md ops listed i=true:=by kernel_rfl)(hr: (Region.ready md ops listed).contains i=true:=by kernel_rfl)
 (hw:Region.wanted oi (yielded ops a.tmps) =true:=by rfl)(hy:∀w,S w-> (execOp a.eval oi).run P w= .ok (.value v) w:=by(intro wS hSw;(try dsimp only at hSw);go_simp) <;> (try with_reducible rfl))
 (hQ:∀c a w,Q (.panic c) (a.put oi.dst v) w->Q (.panic c) a w:=by exact fun _ _ _ h=>h)(hS:S w:=by assumption) :wpAnyH P md ops Q S (fuel+1) listed a w:=
 wpAnyH_take hi hs hf hr hQ (Or.inl ⟨hw,hy⟩) hS h
theorem aJ (i:Nat){oi:Oper}{v:Value}
 (hi:ops[i]? =some oi:=by(simp only[List.getElem?_toArray,List.getElem?_cons_succ,List.getElem?_cons_zero]) <;>rfl)(hs:Region.noSelect ops=true:=by kernel_rfl)(hf:Region.free md ops listed i=true:=by kernel_rfl)(hr: (Region.ready md ops listed).contains i=true:=by kernel_rfl)
 (hw:Region.wanted oi (yielded ops a.tmps) =true:=by rfl)(hy:∀w,S w-> (execOp a.eval oi).run P w= .ok (.value v) w:=by(intro wS hSw;(try dsimp only at hSw);(try simp only[Act.put,List.setIfInBounds_toArray,List.set_cons_zero,List.set_cons_succ]);go_simp) <;> (try with_reducible rfl))
 (hQ:∀c a w,Q (.panic c) (a.put oi.dst v) w->Q (.panic c) a w:=by exact fun _ _ _ h=>h)(hS:S w:=by assumption)(h:wpAnyH P md ops Q S fuel (listed.setIfInBounds i true) (a.put oi.dst v) w) :wpAnyH P md ops Q S (fuel+1) listed a w:=
 wpAnyH_take hi hs hf hr hQ (Or.inl ⟨hw,hy⟩) hS h
theorem rc (i:Nat){o:Oper}{rs:List Nat}(h:∀K':Act->World->Prop,Shut (∀a w,S w-> (S w->wpAnyH P md ops Q S fuel (listed.setIfInBounds i true) a w)->K' a w)->if Region.wanted o (yielded ops a.tmps) =true then Oper.wp P o a w K' Q else K' (a.put o.dst undef) w)
 (hs:AllReadyH P md ops Q S fuel listed a w rs)(ho:ops[i]? =some o:=by(simp only[List.getElem?_toArray,List.getElem?_cons_succ,List.getElem?_cons_zero]) <;>rfl) :AllReadyH P md ops Q S fuel listed a w (i::rs) := .cons ho h hs
theorem Lv {rs:List Nat}(h:AllReadyH P md ops Q S fuel listed a w rs)(hr:Region.ready md ops listed=rs:=by kernel_rfl)(hne:rs≠ [] :=by simp) :wpAnyH P md ops Q S (fuel+1) listed a w:=wpAnyH_ready hr hne h
theorem rd (i:Nat){o:Oper}(h:∀K':Act->World->Prop,Shut (∀a w,S w-> (S w->wpAnyH P md ops Q S fuel (listed.setIfInBounds i true) a w)->K' a w)->if Region.wanted o (yielded ops a.tmps) =true then Oper.wp P o a w K' Q else K' (a.put o.dst undef) w)
 (hr:Region.ready md ops listed= [i] :=by kernel_rfl)(ho:ops[i]? =some o:=by(simp only[List.getElem?_toArray,List.getElem?_cons_succ,List.getElem?_cons_zero]) <;>rfl) :wpAnyH P md ops Q S (fuel+1) listed a w:=wpAnyH_ready hr (by simp) (.cons ho h .nil)
end
theorem bB {α:Type _}{i:Nat}{x:α}{l:List α} :l.toArray.setIfInBounds i x= (l.set i x).toArray:=List.setIfInBounds_toArray ..
theorem bC {α:Type _}{x y:α}{l:List α} : (x::l).set 0 y=y::l:=List.set_cons_zero ..
theorem bD {α:Type _}{x y:α}{i:Nat}{l:List α} : (x::l).set (i+1) y=x::l.set i y:=List.set_cons_succ ..
theorem ad {p:Prop}(h:p) :Hid p:=Lib.hid h
theorem ah {n:Nat} :n<=n:=Nat.le_refl n
theorem aF {B:Nat}{w:World} :Below B w w:=Below.refl B w
end Go.Proofs.YtcjagakckffkiaaGreatDoor
namespace Go.Proofs.YtcjagakckffkiaaGreatDoor.bL
open Go.Lib
def dq (n:Nat) :List Int:= (decDigits n).map fun b=> (b.toNat:Int)
def Dj (z:Int) :Bool:=decide (48<=z) &&decide (z<=57)
def gi (zs:List Int) :Nat:=zs.foldl (fun n z=>10*n+ (z- 48).toNat) 0
def cU (zs:List Int) :Bool:=!zs.isEmpty&&zs.all Dj&& (decide (zs.getD 0 0≠48) ||decide (zs.length=1))
theorem xB {P:List Int->Prop}(nil:P [])(append_singleton:∀ys z,P ys->P (ys++ [z]))(zs:List Int) :P zs:=by
 rw[<- List.reverse_reverse zs];generalize zs.reverse=l
 induction l with
 |nil=>exact nil
 |cons a l ih=>rw[List.reverse_cons];exact append_singleton _ _ ih
theorem eM (z:Int) :Dj z=true↔48<=z/\z<=57:=by unfold Dj;simp
theorem oZ {n:Nat}(h:n<10) : ((UInt8.ofNat (48+n)).toNat:Int) =48+ (n:Int) :=by
 rw[UInt8.toNat_ofNat'];omega
theorem gZ {n:Nat}(h:n<10) :dq n= [48+ (n:Int)] :=by
 unfold dq;rw[decDigits,dif_pos h,List.map_cons,List.map_nil,oZ h]
theorem mK {n:Nat}(h:¬n<10) :dq n=dq (n/10) ++ [48+ ((n % 10:Nat) :Int)] :=by
 unfold dq;rw[decDigits,dif_neg h,List.map_append,List.map_cons,List.map_nil,oZ (Nat.mod_lt _ (by decide))]
theorem jZ (n:Nat) : (dq n).length=nDigits n:=by unfold dq;rw[List.length_map,decDigits_length]
theorem zZ (n:Nat) :dq n≠ [] :=fun h=>by
 have:=jZ n;rw[h]at this;have:=nDigits_pos n;simp at*;omega
theorem lj (zs:List Int)(z:Int) :gi (zs++ [z]) =10*gi zs+ (z- 48).toNat:=by unfold gi;rw[List.foldl_append];rfl
theorem Hi:gi [] =0:=rfl
theorem kY (n:Nat) :gi (dq n) =n:=by
 induction n using Nat.strongRecOn with
 |_ n ih=>
  by_cases h:n<10
  ·rw[gZ h];show 10*0+ (48+ (n:Int) - 48).toNat=n;omega
  ·rw[mK h,lj,ih (n/10) (by omega)];omega
theorem iI (n:Nat) : (dq n).all Dj=true:=by
 induction n using Nat.strongRecOn with
 |_ n ih=>
  by_cases h:n<10
  ·rw[gZ h,List.all_cons,List.all_nil,Bool.and_true,eM];omega
  ·rw[mK h,List.all_append,ih (n/10) (by omega),Bool.true_and,List.all_cons,List.all_nil,Bool.and_true,eM];omega
theorem Cu (n:Nat)(h1:1<=n) : (dq n).getD 0 0≠48:=by
 induction n using Nat.strongRecOn with
 |_ n ih=>
  by_cases h:n<10
  ·rw[gZ h];show(48+ (n:Int))≠48;omega
  ·have hne:=zZ (n/10);have:=ih (n/10) (by omega) (by omega);rw[mK h]
   cases hc:dq (n/10)with
   |nil=>exact absurd hc hne
   |cons a l=>rw[hc]at this;exact this
theorem vI (n:Nat) :cU (dq n) =true:=by
 unfold cU;rw[iI,Bool.and_true];have hne:=zZ n
 have: (dq n).isEmpty=false:=by cases hc:dq n with
  |nil=>exact absurd hc hne
  |cons _ _=>rfl
 rw[this,Bool.not_false,Bool.true_and];by_cases h:n<10
 ·rw[gZ h];simp
 ·rw[decide_eq_true (Cu n (by omega))];rfl
theorem Fa:∀(zs:List Int),zs.all Dj=true->zs≠ []->zs.getD 0 0≠48->1<=gi zs:=by
 intro zs
 induction zs using xB with
 |nil=>intro _ h;exact absurd rfl h
 |append_singleton ys z ih=>
  intro ha _ hh;rw[lj];rw[List.all_append,Bool.and_eq_true]at ha;rcases List.eq_nil_or_concat ys with rfl|⟨_,_,hy⟩
  ·have h1:=ha.2;rw[List.all_cons,List.all_nil,Bool.and_true,eM]at h1
   change z≠48 at hh
   omega
  ·have hne:ys≠ [] :=by rw[hy];simp
   have:=ih ha.1 hne (by
    cases ys with
    |nil=>exact absurd rfl hne
    |cons a l=>exact hh)
   omega
theorem tw:∀(zs:List Int),cU zs=true->dq (gi zs) =zs:=by
 intro zs
 induction zs using xB with
 |nil=>intro h;exact absurd h (by decide)
 |append_singleton ys z ih=>
  intro h;unfold cU at h;rw[Bool.and_eq_true,Bool.and_eq_true]at h;obtain⟨⟨_,ha⟩,hh⟩:=h;rw[List.all_append,Bool.and_eq_true]at ha;have h1:=ha.2;rw[List.all_cons,List.all_nil,Bool.and_true,eM]at h1;rw[lj];rcases List.eq_nil_or_concat ys with rfl|⟨_,_,hy⟩
  ·rw[Hi,gZ (by omega)];show [_] = [z]
   congr 1
   omega
  ·have hne:ys≠ [] :=by rw[hy];simp
   have hl:ys.length≠0:=fun h=>hne (List.length_eq_zero_iff.1 h)
   have hd:ys.getD 0 0≠48:=by
    rw[Bool.or_eq_true,decide_eq_true_eq,decide_eq_true_eq,List.length_append,List.length_singleton]at hh;rcases hh with hh|hh
    ·cases ys with
     |nil=>exact absurd rfl hne
     |cons a l=>exact hh
    ·omega
   have hp:=Fa ys ha.1 hne hd
   have hok:cU ys=true:=by
    unfold cU;rw[ha.1,decide_eq_true hd]
    cases ys with
    |nil=>exact absurd rfl hne
    |cons a l=>rfl
   have e:=ih hok;rw[mK (by omega)];rw[show(10*gi ys+ (z- 48).toNat) /10=gi ys by omega,e]
   congr 2
   omega
theorem qC (zs:List Int)(k:Nat)(h:k<zs.length) :gi (zs.take (k+1)) =10*gi (zs.take k) + (zs.getD k 0- 48).toNat:=by
 rw[List.take_succ_eq_append_getElem h,lj,List.getD_eq_getElem?_getD,List.getElem?_eq_getElem h];rfl
theorem kW (zs:List Int) :cU zs=true↔zs≠ []/\ (∀k,k<zs.length->48<=zs.getD k 0/\zs.getD k 0<=57)/\ (zs.getD 0 0=48->zs.length=1) :=by
 unfold cU;rw[Bool.and_eq_true,Bool.and_eq_true,Bool.or_eq_true,decide_eq_true_eq,decide_eq_true_eq];constructor
 ·rintro⟨⟨h1,h2⟩,h3⟩;refine⟨fun e=> (by rw[e]at h1;cases h1),fun k hk=>?_,fun e=>h3.resolve_left (fun h=>h e)⟩;rw[List.all_eq_true]at h2;have:=h2 _ (List.getElem_mem hk);rw[eM]at this;rw[List.getD_eq_getElem?_getD,List.getElem?_eq_getElem hk];exact this
 ·rintro⟨h1,h2,h3⟩;refine⟨⟨?_,?_⟩,?_⟩
  ·cases zs with
   |nil=>exact absurd rfl h1
   |cons _ _=>rfl
  ·rw[List.all_eq_true];intro z hz;obtain⟨k,hk,rfl⟩:=List.getElem_of_mem hz;have:=h2 k hk;rw[List.getD_eq_getElem?_getD,List.getElem?_eq_getElem hk]at this;exact(eM _).2 this
  ·by_cases e:zs.getD 0 0=48
   ·exact .inr (h3 e)
   ·exact .inl e
theorem ud {a b:Nat}(h:a<=b) :nDigits a<=nDigits b:=by
 induction b using Nat.strongRecOn generalizing a with
 |_ b ih=>
  by_cases hb:b<10
  ·rw[nDigits_small hb,nDigits_small (by omega)];exact ah
  ·rw[nDigits_big hb];by_cases ha:a<10
   ·rw[nDigits_small ha];omega
   ·rw[nDigits_big ha];have:=ih (b/10) (by omega) (show a/10<=b/10 by omega);omega
theorem gQ:∀(k n:Nat),n<10^ (k+1)->nDigits n<=k+1
 |0,n,h=>by rw[nDigits_small (by simpa using h)];exact ah
 |k+1,n,h=>by
  by_cases hn:n<10
  ·rw[nDigits_small hn];omega
  ·rw[nDigits_big hn];rw[Nat.pow_succ]at h;have:=gQ k (n/10) (by omega);omega
def yT:Nat->Nat->Nat->Nat
 |0,D,_=>D
 |f+1,D,rest=>if nDigits (D+rest)<=D then D else yT f (D+1) rest
def vL (rest:Nat) :Nat:=yT 7 1 rest
def pA (rest:Nat) :Nat:=vL rest+rest
theorem xZ (rest:Nat) :∀(f D:Nat),1<=D->nDigits (D+f+rest)<=D+f-> (∀d,1<=d->d<D->¬nDigits (d+rest)<=d)->
 D<=yT f D rest/\yT f D rest<=D+f/\nDigits (yT f D rest+rest)<=yT f D rest/\∀d,1<=d->d<yT f D rest->¬nDigits (d+rest)<=d
 |0,D,h1,h2,h3=>⟨ah,ah,h2,h3⟩
 |f+1,D,h1,h2,h3=>by
  unfold yT;by_cases h:nDigits (D+rest)<=D
  ·rw[if_pos h];exact⟨ah,by omega,h,h3⟩
  ·rw[if_neg h]
   obtain⟨a,b,c,d⟩:=xZ rest f (D+1) (by omega) (by rw[show D+1+f=D+ (f+1) by omega];exact h2) (fun d Ip hd2=>by
    by_cases e:d=D
    ·rw[e];exact h
    ·exact h3 d Ip (by omega))
   exact⟨by omega,by omega,c,d⟩
theorem qB {rest:Nat}(hr:rest<=1000000) :1<=vL rest/\vL rest<=8/\nDigits (vL rest+rest) =vL rest/\∀d,1<=d->d<vL rest->d<nDigits (d+rest) :=by
 have h8:nDigits (1+7+rest)<=1+7:=gQ 7 _ (by
  have: (10:Nat) ^ (7+1) =100000000:=by decide
  omega)
 obtain⟨a,b,c,d⟩:=xZ rest 7 1 ah h8 (fun d h1 h2=>by omega);refine⟨a,b,?_,fun d' h1 h2=>by have:=d d' h1 h2;omega⟩
 change nDigits (vL rest+rest)<=vL rest at c
 change 1<=vL rest at a
 by_cases e:vL rest=1
 ·rw[e]at c⊢;have:=nDigits_pos (1+rest);omega
 ·have:=d (vL rest- 1) (by omega) (by show vL rest- 1<vL rest;omega);have m:=ud (show vL rest- 1+rest<=vL rest+rest by omega);omega
theorem Ar {rest:Nat}(hr:rest<=1000000) :nDigits (pA rest) +rest=pA rest:=by
 have:= (qB hr).2.2.1;unfold pA;omega
theorem Fw {rest:Nat}(hr:rest<=1000000) :rest+1<=pA rest/\pA rest<=rest+8:=by
 have:=qB hr;unfold pA;omega
theorem Hy {f D rest:Nat}(h:nDigits (D+rest)<=D) :yT f D rest=D:=by
 cases f with
 |zero=>rfl
 |succ f=>unfold yT;rw[if_pos h]
theorem NY {f D rest:Nat}(h:¬nDigits (D+rest)<=D) :yT (f+1) D rest=yT f (D+1) rest:=by
 conv=>lhs;unfold yT
 rw[if_neg h]
end Go.Proofs.YtcjagakckffkiaaGreatDoor.bL
namespace Go.Proofs.YtcjagakckffkiaaGreatDoor
open Go.RowKit
theorem jJ {z:Int}(h1:0<=z)(h2:z<=9223372036854775807) :IntKind.i64.wrap z=z:=by
 have hb:IntKind.i64.bits=64:=rfl;have hs:IntKind.i64.signed=true:=rfl;unfold IntKind.wrap;simp only[hb,hs,Bool.true_and];have e: (2:Int) ^64=18446744073709551616:=by decide
 have e': (2:Int) ^ (64- 1) =9223372036854775808:=by decide
 rw[e,e',Int.emod_eq_of_lt h1 (by omega),if_neg (by simp;omega)]
theorem ch {s t:ByteArray}(h:¬s=t) : (s.toList==t.toList) =false:=by
 rw[beq_eq_false_iff_ne]
 exact fun e=>h (by
  apply ByteArray.ext;apply Array.ext';rw[ByteArray.toList_eq,ByteArray.toList_eq]at e;exact e)
theorem ed {s:ByteArray}(h:¬s= {data:= #[]}) :s.toList.isEmpty=false:=by
 have h1:=ch h;have e: ({data:= #[]} :ByteArray).toList= [] :=by rw[ByteArray.toList_eq]
 rw[e]at h1
 cases hl:s.toList with
 |nil=>rw[hl]at h1;simp at h1
 |cons x xs=>rfl
theorem fV (s t:ByteArray) :af (s++t) =af s++af t:=by
 unfold af;rw[ByteArray.data_append,Array.toList_append,List.map_append]
theorem je (s:ByteArray)(j:Nat)(h:j<s.size) : (af s).getD j 0= (s[j].toNat:Int) :=by
 have h1: (af s)[j]? =some (s[j].toNat:Int) :=by
  unfold af;rw[List.getElem?_map,Array.getElem?_toList,Array.getElem?_eq_getElem (by exact h)];rfl
 rw[List.getD_eq_getElem?_getD,h1];rfl
theorem iQ (s:ByteArray)(a b:Nat) :af (s.extract a b) = ((af s).drop a).take (b- a) :=by
 unfold af;rw[ByteArray.data_extract,Array.toList_extract,List.extract_eq_take_drop,List.map_take,List.map_drop]
theorem iw (s:ByteArray)(a b:Nat) :s.extract a b=strOfNums (((af s).drop a).take (b- a)) :=by
 rw[<- iQ,az]
theorem eN {s t:ByteArray}(h:af s=af t) :s=t:=by rw[<- az s,<- az t,h]
theorem GJ (s:ByteArray)(c:UInt8) :0<=Lib.indexByte s.data.toList c↔(c.toNat:Int)∈af s:=by
 constructor
 ·intro h;obtain⟨o,ho⟩:∃o:Nat,Lib.indexByte s.data.toList c=o:=⟨(Lib.indexByte s.data.toList c).toNat,by omega⟩;have h1:= (Lib.indexByte_some ho).1;rw[cm,List.mem_map];exact⟨c,List.mem_of_getElem? h1,rfl⟩
 ·intro h;rw[cm,List.mem_map]at h;obtain⟨b,hb,h0⟩:=h
  obtain rfl:b=c:=by
   apply UInt8.toNat_inj.1;omega
  rcases Int.lt_or_le (Lib.indexByte s.data.toList b) 0 with h|h
  ·exfalso;have h1:=Lib.indexByte_ge s.data.toList b;obtain⟨k,hk⟩:=List.getElem?_of_mem hb;exact Lib.indexByte_none (c:=b) (by omega) k hk
  ·exact h
theorem Br (s:ByteArray)(c:UInt8) : (((c.toNat:Int)∉af s)->Lib.indexByte s.data.toList c= -1)/\
 ((c.toNat:Int)∈af s->Lib.indexByte s.data.toList c= (((af s).takeWhile (fun z=>z != (c.toNat:Int))).length:Int)) :=by
 rw[cm];generalize s.data.toList=l
 induction l with
 |nil=>exact⟨fun _=>rfl,fun h=>by simp at h⟩
 |cons b l ih=>
  by_cases hb:b=c
  ·subst hb;refine⟨fun h=>absurd (List.mem_cons_self ..) h,fun _=>?_⟩;simp[Lib.indexByte]
  ·have hb':¬((b.toNat:Int) = (c.toNat:Int)) :=fun e=>hb (by apply UInt8.toNat_inj.1;omega);have hbb: (b==c) =false:=by simpa using hb
   have hge:=Lib.indexByte_ge l c;constructor
   ·intro h;rw[List.map_cons,List.mem_cons,not_or]at h;unfold Lib.indexByte;rw[hbb,ih.1 h.2];rfl
   ·intro h;rw[List.map_cons,List.mem_cons]at h;have h2:=h.resolve_left (fun e=>hb' e.symm);have e:=ih.2 h2;unfold Lib.indexByte;rw[hbb,List.map_cons,List.takeWhile_cons];have e1: ((b.toNat:Int) != (c.toNat:Int)) =true:=by simpa using hb'
    rw[e1,e]
    have e2: (((List.takeWhile (fun z=>z != (c.toNat:Int)) (List.map (fun b:UInt8=> (b.toNat:Int)) l)).length:Int) == -1) =false:=by
     rw[beq_eq_false_iff_ne];omega
    rw[e2];simp
end Go.Proofs.YtcjagakckffkiaaGreatDoor
