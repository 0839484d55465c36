import Derived.MapKept
import Derived.Test.YtcjagakckffkiaaGreatDoorS9
set_option maxHeartbeats 16000000
set_option maxRecDepth 100000
namespace Go.Proofs.YtcjagakckffkiaaGreatDoor
section
open Go.RowKit Go.MapKept
open Classical in
noncomputable def lk:List MapEntry->Value->Option Value
 | [],_=>none
 |e::es,k=>if e.key=k then some e.val else lk es k
theorem px {d:TypeDesc}{k:Value}(hk:IsKey d k) :∀(l:List MapEntry) (i:Nat),(∀x∈l,IsKey d x.key)->
 (Instr.findNow d k l i=some none/\lk l k=none)\/∃l1 e l2,l=l1++e::l2/\e.key=k/\ (∀x∈l1,x.key≠k)/\Instr.findNow d k l i=some (some (i+l1.length,e.val))/\lk l k=some e.val
 | [],i,_=> .inl ⟨rfl,rfl⟩
 |x::l,i,h=>by
  obtain⟨r,hr,hiff⟩:=sameNow_of_keys hk (h x (.head _))
  cases r with
  |true=>
   have e:=hiff.1 rfl;exact .inr ⟨[],x,l,rfl,e.symm,(fun _ h=>by cases h),by simp[Instr.findNow,hr],by unfold lk;rw[if_pos e.symm]⟩
  |false=>
   have ne:x.key≠k:=fun e=>by have:=hiff.2 e.symm;cases this
   rcases px hk l (i+1) (fun y hy=>h y (.tail _ hy))with⟨h1,h2⟩|⟨l1,e,l2,rfl,h2,h3,h4,h5⟩
   ·exact .inl ⟨by simp[Instr.findNow,hr,h1],by unfold lk;rw[if_neg ne];exact h2⟩
   ·exact .inr ⟨x::l1,e,l2,rfl,h2,(fun y hy=>by
     rcases List.mem_cons.1 hy with rfl|hy
     ·exact ne
     ·exact h3 y hy),by simp[Instr.findNow,hr,h4];omega,by unfold lk;rw[if_neg ne];exact h5⟩
theorem ks {k:Value} :∀(l1 l2:List MapEntry),(∀x∈l1,x.key≠k)->lk (l1++l2) k=lk l2 k
 | [],_,_=>rfl
 |x::l1,l2,h=>by
  rw[List.cons_append,lk,if_neg (h x (.head _))];exact ks l1 l2 fun y hy=>h y (.tail _ hy)
theorem um {k:Value} :∀{l:List MapEntry},lk l k=none->∀x∈l,x.key≠k
 | [],_,_,h=>by cases h
 |y::l,h,x,hx=>by
  unfold lk at h;by_cases c:y.key=k
  ·rw[if_pos c]at h;cases h
  ·rw[if_neg c]at h;rcases List.mem_cons.1 hx with rfl|hx
   ·exact c
   ·exact um h x hx
theorem rk {k k':Value}{e e':MapEntry}(he:e.key=k)(he':e'.key=k)(h:k'≠k) :∀(l1 l2:List MapEntry),lk (l1++e'::l2) k'=lk (l1++e::l2) k'
 | [],l2=>by
  rw[List.nil_append,List.nil_append,lk,lk,if_neg (by rw[he'];exact fun c=>h c.symm),if_neg (by rw[he];exact fun c=>h c.symm)]
 |x::l1,l2=>by
  rw[List.cons_append,List.cons_append,lk,lk,rk he he' h l1 l2]
theorem uk {k:Value}{e:MapEntry}(he:e.key≠k) :∀l:List MapEntry,lk (l++ [e]) k=lk l k
 | [] =>by rw[List.nil_append];unfold lk;rw[if_neg he];rfl
 |x::l=>by rw[List.cons_append,lk,lk,uk he l]
open Classical in
noncomputable def rZ (F:Value->Option Value)(k v:Value) :Value->Option Value:=fun k'=>if k'=k then some v else F k'
theorem du (F:Value->Option Value)(k v:Value) :rZ F k v k=some v:=by unfold rZ;rw[if_pos rfl]
theorem fG {F:Value->Option Value}{k v k':Value}(h:k'≠k) :rZ F k v k'=F k':=by unfold rZ;rw[if_neg h]
def dG (w:World)(g:Nat)(d:TypeDesc)(n:Nat)(F:Value->Option Value) :Prop:=
 ∃(xs:Array MapEntry) (clk:Nat),w.heap[g]? =some (.map xs clk)/\ (∀x∈xs.toList,IsKey d x.key)/\xs.size=n/\∀k,lk xs.toList k=F k
theorem dG.lt {w:World}{g n:Nat}{d:TypeDesc}{F:Value->Option Value}(h:dG w g d n F) :g<w.heap.size:=by
 obtain⟨xs,clk,h,_⟩:=h;exact(Array.getElem?_eq_some_iff.1 h).1
theorem dG.block {w w':World}{g n:Nat}{d:TypeDesc}{F:Value->Option Value}(h:dG w g d n F)(e:w'.heap[g]? =w.heap[g]?) :dG w' g d n F:=by
 obtain⟨xs,clk,h,h2⟩:=h;exact⟨xs,clk,e.trans h,h2⟩
theorem dG.below {w w':World}{B g n:Nat}{d:TypeDesc}{F:Value->Option Value}(h:dG w g d n F)(hb:Below B w w')(hg:g<B) :dG w' g d n F:=h.block (hb.block g hg)
section
variable {P:Program} {w:World} {ops:Array Oper} {rest:List Oper} {o:Oper} {a:Act} {Q:Exit->Act->World->Prop}
theorem bo (hgd:o.guard=none)(T:TypeId)(ho:o.op= .makeMap T none)(d:TypeDesc)
 (K:∀w',dG w' w.heap.size d 0 (fun _=>none)->Below w.heap.size w w'->wpList P ops Q rest (a.put o.dst (.map (some w.heap.size))) w') :wpList P ops Q (o::rest) a w:=by
 refine wpList_plain hgd fun K' hK=>?_;unfold Oper.wp;simp[execOp,ho,run_makeMap,Result.andThen];exact hK _ _ (K _ ⟨#[],0,heap_alloc_new w _,(fun x h=>by simp at h),rfl,fun k=>rfl⟩ (au.alloc aj _))
theorem bT (hgd:o.guard=none)(T:TypeId)(m k x:Operand)(ho:o.op= .mapUpdate T m k x)(kt et:TypeId)(hT:P.underlying T=some (.map kt et))(d:TypeDesc)(hk:P.underlying kt=some d)
 (g:Nat)(hm:a.eval m= .map (some g))(kv:Value)(hkv:a.eval k=kv)(hkey:IsKey d kv)(v:Value)(hv:a.eval x=v)(n:Nat)(F:Value->Option Value)(hg:dG w g d n F)
 (K:∀w',dG w' g d (if F kv=none then n+1 else n) (rZ F kv v)->dU w w' g->wpList P ops Q rest (a.put o.dst undef) w') :wpList P ops Q (o::rest) a w:=by
 refine wpList_plain hgd fun K' hK=>?_;obtain⟨xs,clk,h1,h2,h3,h4⟩:=hg;have hlt:g<w.heap.size:= (Array.getElem?_eq_some_iff.1 h1).1
 have zw:∀(xs':Array MapEntry) (c':Nat),dU w {w with heap:=w.heap.setIfInBounds g (.map xs' c')} g:=fun xs' c'=>⟨fun hB=>⟨rfl,rfl,rfl,by simp,fun i hi=>by
  show(w.heap.setIfInBounds g _)[i]? =w.heap[i]?;rw[Array.getElem?_setIfInBounds_ne (by omega)]⟩,fun{k} hkg=>by
  show(w.heap.setIfInBounds g _)[k]? =w.heap[k]?;rw[Array.getElem?_setIfInBounds_ne (by omega)],by simp⟩
 rcases px hkey xs.toList 0 h2 with⟨f1,f2⟩|⟨l1,e,l2,f1,f2,f3,f4,f5⟩
 ·have hF:F kv=none:=by rw[<- h4];exact f2
  have hrun: (Instr.mapUpdate T (.map (some g)) kv v).run P w= .ok () {w with heap:=w.heap.setIfInBounds g (.map (xs.push {key:=kv,val:=v,born:=clk}) (clk+1))} :=by
   simp[Instr.mapUpdate,run_underlying hT,Go.MapKept.run_getObj_map h1,run_checkKey (w:=w) hk hkey,run_findKey (w:=w) hk f1,Go.MapKept.run_setObj_map _ h1,Result.andThen]
  unfold Oper.wp;simp[execOp,ho,hm,hkv,hv,hrun,Result.andThen];refine hK _ _ (K _ ⟨xs.push {key:=kv,val:=v,born:=clk},clk+1,by simp[hlt],?_,?_,?_⟩ (zw _ _))
  ·intro x hx;simp only[Array.toList_push,List.mem_append,List.mem_singleton]at hx;rcases hx with hx|rfl
   ·exact h2 x hx
   ·exact hkey
  ·rw[if_pos hF,Array.size_push,h3]
  ·intro k';rw[Array.toList_push];by_cases c:k'=kv
   ·subst c;rw[du,ks _ _ (um f2),lk,if_pos rfl]
   ·rw[fG c,uk (fun h=>c h.symm),h4]
 ·have hF:F kv≠none:=by rw[<- h4,f5];exact fun h=>by cases h
  have hlen:l1.length<xs.toList.length:=by rw[f1];simp
  have hj:xs[l1.length]? =some e:=by
   rw[<- Array.getElem?_toList,f1,List.getElem?_append_right aj,Nat.sub_self];rfl
  rw[Nat.zero_add]at f4
  have hrun: (Instr.mapUpdate T (.map (some g)) kv v).run P w= .ok () {w with heap:=w.heap.setIfInBounds g (.map (xs.modify l1.length fun e=> {e with key:=kv,val:=v}) clk)} :=by
   simp[Instr.mapUpdate,run_underlying hT,Go.MapKept.run_getObj_map h1,run_checkKey (w:=w) hk hkey,run_findKey (w:=w) hk f4,hj,f2,run_keyThatStays hkey,Go.MapKept.run_setObj_map _ h1,Result.andThen]
  have hl: (xs.modify l1.length fun e=> {e with key:=kv,val:=v}).toList=l1++ {e with key:=kv,val:=v} ::l2:=by
   rw[Array.toList_modify,f1,List.modify_eq_take_cons_drop (by simp)];simp
  unfold Oper.wp;simp[execOp,ho,hm,hkv,hv,hrun,Result.andThen];refine hK _ _ (K _ ⟨xs.modify l1.length fun e=> {e with key:=kv,val:=v},clk,by simp[hlt],?_,?_,?_⟩ (zw _ _))
  ·rw[hl];intro x hx;rcases List.mem_append.1 hx with hx|hx
   ·exact h2 x (by rw[f1];exact List.mem_append_left _ hx)
   ·rcases List.mem_cons.1 hx with rfl|hx
    ·exact hkey
    ·exact h2 x (by rw[f1];exact List.mem_append_right _ (List.mem_cons_of_mem _ hx))
  ·rw[if_neg hF,Array.size_modify,h3]
  ·intro k';rw[hl];by_cases c:k'=kv
   ·subst c;rw[du,ks _ _ f3,lk,if_pos rfl]
   ·rw[fG c,rk (k:=kv) f2 rfl c,<- f1,h4]
theorem bE (T kt et:TypeId)(hT:P.underlying T=some (.map kt et))(d:TypeDesc)(hk:P.underlying kt=some d)(z:Value)(hz: (P.info? et).map (·.zero) =some (some z))
 (g n:Nat)(kv:Value)(hkey:IsKey d kv)(F:Value->Option Value)(hg:dG w g d n F) :
 (Instr.lookup T (.map (some g)) kv true).run P w= .ok (.tuple #[(F kv).getD z,.bool (F kv).isSome]) w/\ (Instr.lookup T (.map (some g)) kv false).run P w= .ok ((F kv).getD z) w:=by
 obtain⟨xs,clk,h1,h2,h3,h4⟩:=hg
 cases hq:P.info? et with
 |none=>simp[hq]at hz
 |some j=>
  have hj:j.zero=some z:=by simpa [hq]using hz
  rcases px hkey xs.toList 0 h2 with⟨f1,f2⟩|⟨l1,e,l2,f1,f2,f3,f4,f5⟩
  ·rw[<- h4,f2];constructor<;>simp[Instr.lookup,run_underlying hT,Go.MapKept.run_getObj_map h1,run_checkKey (w:=w) hk hkey,run_findKey (w:=w) hk f1,zeroValue,typeInfo,hq,hj,Result.andThen]
  ·rw[<- h4,f5];constructor<;>simp[Instr.lookup,run_underlying hT,Go.MapKept.run_getObj_map h1,run_checkKey (w:=w) hk hkey,run_findKey (w:=w) hk f4,Result.andThen]
theorem yM (T kt et ty:TypeId)(hT:P.underlying T=some (.map kt et))(d:TypeDesc)(g n:Nat)(F:Value->Option Value)(hg:dG w g d n F) :
 (Builtin.len_ #[T] ty #[.map (some g)]).run P w= .ok (goInt n) w:=by
 obtain⟨xs,clk,h1,h2,h3,h4⟩:=hg;simp[Builtin.len_,run_underlying hT,Go.MapKept.run_getObj_map h1,h3,Result.andThen]
end
end
namespace Tre
open Go.RowKit Go.MapKept Go.Proofs.YtcjagakckffkiaaGreatDoor.Fit
noncomputable def fk (f:Nat->Value) :Nat->Value->Option Value
 |0,_=>none
 |n+1,v=>match fk f n v with
  |some x=>some x
  |none=>rZ (fun _=>none) (f n) (.int .i64 n) v
theorem pA (f:Nat->Value) :fk f 0=fun _=>none:=by funext v;rw[fk]
theorem xq {f:Nat->Value}{n:Nat}(h: (fk f n (f n)).isSome=true) :fk f (n+1) =fk f n:=by
 funext v
 rw[fk]
 cases e:fk f n v with
 |some x=>rfl
 |none=>
  rw[fG];intro c;subst c;rw[e]at h
  cases h
theorem xp {f:Nat->Value}{n:Nat}(h:fk f n (f n) =none) :fk f (n+1) =rZ (fk f n) (f n) (.int .i64 n) :=by
 funext v
 rw[fk];by_cases c:v=f n
 ·subst c;rw[h,du];exact(du (fk f n) (f n) _).symm
 ·rw[fG (F:=fk f n) c]
  cases e:fk f n v with
  |some x=>rfl
  |none=>exact fG c
theorem py {f:Nat->Value} :∀{n:Nat} {v:Value},fk f n v=none↔∀i,i<n->f i≠v
 |0,v=>⟨fun _ i h=>absurd h (Nat.not_lt_zero i),fun _=>by rw[pA]⟩
 |n+1,v=>by
  rw[fk];have ih:=py (f:=f) (n:=n) (v:=v)
  cases e:fk f n v with
  |some x=>
   refine⟨fun h=>absurd h (by simp),fun h=>?_⟩;have:=ih.mpr fun i hi=>h i (by omega);rw[e]at this;cases this
  |none=>
   have hn:=ih.mp e;by_cases c:v=f n
   ·subst c;refine⟨fun h=>?_,fun h=>absurd rfl (h n (by omega))⟩;rw[show rZ (fun _=>none) (f n) (.int .i64 n) (f n) =_ from du _ _ _]at h;cases h
   ·refine⟨fun _ i hi=>?_,fun _=>fG c⟩;by_cases hin:i<n
    ·exact hn i hin
    ·obtain rfl:i=n:=by omega
     exact fun h=>c h.symm
noncomputable def dk (k:Nat->Int)(f:Nat->Value) :Nat->Value->Option Value
 |0,_=>none
 |n+1,v=>if k n=0 then rZ (dk k f n) (f n) (.bool true) v else dk k f n v
theorem Ab (k:Nat->Int)(f:Nat->Value) :dk k f 0=fun _=>none:=by funext v;rw[dk]
theorem DW {k:Nat->Int}{f:Nat->Value}{n:Nat}(h:k n=0) :dk k f (n+1) =rZ (dk k f n) (f n) (.bool true) :=by funext v;rw[dk,if_pos h]
theorem CO {k:Nat->Int}{f:Nat->Value}{n:Nat}(h:k n≠0) :dk k f (n+1) =dk k f n:=by funext v;rw[dk,if_neg h]
open Classical in
theorem Ch {k:Nat->Int}{f:Nat->Value} :∀(n:Nat) (v:Value),dk k f n v=if∃i,i<n/\k i=0/\f i=v then some (.bool true)else none
 |0,v=>by rw[if_neg (by rintro⟨i,h,_⟩;omega),dk]
 |n+1,v=>by
  rw[dk];have ih:=Ch (k:=k) (f:=f) n v;by_cases c:k n=0
  ·rw[if_pos c];by_cases d:v=f n
   ·subst d;rw[du,if_pos ⟨n,by omega,c,rfl⟩]
   ·rw[fG d,ih]
    congr 1
    apply propext;constructor
    ·rintro⟨i,h1,h2⟩;exact⟨i,by omega,h2⟩
    ·rintro⟨i,h1,h2,h3⟩;refine⟨i,?_,h2,h3⟩;by_cases e:i=n
     ·subst e;exact absurd h3.symm d
     ·omega
  ·rw[if_neg c,ih]
   congr 1
   apply propext;constructor
   ·rintro⟨i,h1,h2⟩;exact⟨i,by omega,h2⟩
   ·rintro⟨i,h1,h2,h3⟩;refine⟨i,?_,h2,h3⟩;by_cases e:i=n
    ·subst e;exact absurd h2 c
    ·omega
def pk (ys:List aP)(i:Nat) :Value:= .string (nd (ax ys) i).p
def ck (ys:List aP)(i:Nat) :Value:= .int .i64 (nd (ax ys) i).c
def kk (ys:List aP)(i:Nat) :Int:= (nd (ax ys) i).k
theorem fS {ys:List aP}{i:Nat}{y:aP}(h:ys[i]? =some y) :nd (ax ys) i=y.n:=by unfold nd;rw[eU h];rfl
end Tre
namespace Tre
open Go.RowKit Go.MapKept Go.Proofs.YtcjagakckffkiaaGreatDoor.Fit Pnm
theorem sE {f:Nat->Value} :∀{n:Nat} {v z:Value},fk f n v=some z->∃i,i<n/\z= .int .i64 i/\f i=v/\∀k,k<i->f k≠v
 |0,v,z,h=>by rw[fk]at h;cases h
 |n+1,v,z,h=>by
  cases e:fk f n v with
  |some x=>
   rw[fk,e]at h;obtain⟨i,h1,h2,h3,h4⟩:=sE e
   cases h
   exact⟨i,by omega,h2,h3,h4⟩
  |none=>
   have hn:=py.mp e;rw[fk,e]at h;by_cases c:v=f n
   ·subst c;have h':some (Value.int .i64 n) =some z:= (du (fun _=>none) (f n) (.int .i64 n)).symm.trans h
    cases h'
    exact⟨n,by omega,rfl,rfl,hn⟩
   ·have h':none=some z:= (fG (F:=fun _=>none) c).symm.trans h
    cases h'
theorem xo {f:Nat->Value}{n j:Nat}(hj:j<n) :∃i,i<=j/\fk f n (f j) =some (.int .i64 i)/\f i=f j/\∀k,k<i->f k≠f j:=by
 cases e:fk f n (f j)with
 |none=>exact absurd rfl (py.mp e j hj)
 |some z=>
  obtain⟨i,h1,rfl,h3,h4⟩:=sE e;refine⟨i,?_,rfl,h3,h4⟩;apply Decidable.byContradiction;intro c;exact h4 j (by omega) rfl
theorem Cn {ys:List aP}{i j:Nat} :pk ys i=pk ys j↔(nd (ax ys) i).p= (nd (ax ys) j).p:=by
 unfold pk;constructor
 ·intro h;cases h': (nd (ax ys) i).p;rw[h']at h;injection h
 ·intro h;rw[h]
theorem Ac {ys:List aP}{n j:Nat}(hj:j<n) :∃i,i<=j/\fk (pk ys) n (pk ys j) =some (.int .i64 i)/\ (i≠j↔wh (ax ys) j) :=by
 obtain⟨i,h1,h2,h3,h4⟩:=xo (f:=pk ys) hj;refine⟨i,h1,h2,fun h=>⟨i,by omega,Cn.mp h3⟩,?_⟩;rintro⟨k,k1,k2⟩ rfl;exact h4 k k1 (Cn.mpr k2)
theorem rV {zs:List Int} :strOfNums zs=emp↔zs= [] :=by
 constructor
 ·intro h;have:=congrArg ByteArray.size h;rw[strOfNums_size]at this;exact List.length_eq_zero_iff.mp this
 ·rintro rfl;rfl
theorem oK (p:ByteArray) :Bytes (dt (ad p)) :=by
 unfold dt
 split
 ·intro z hz;cases hz
 ·intro z hz;exact cG p z (List.mem_of_mem_take hz)
theorem jJ {p q:ByteArray} :ad q=dt (ad p)↔q=strOfNums (dt (ad p)) :=by
 constructor
 ·intro h;rw[<- h,aJ]
 ·rintro rfl;exact ak (oK p)
theorem Bb {ys:List aP}{x:Nd} :qv (ax ys) x↔strOfNums (dt (key x)) =emp\/∃i,i<ys.length/\kk ys i=0/\pk ys i= .string (strOfNums (dt (key x))) :=by
 unfold qv;rw[rV];constructor
 ·rintro(h|⟨y,hy,h1,h2⟩)
  ·exact .inl h
  ·obtain⟨i,hi,rfl⟩:=mQ hy;rw[aV]at hi;exact .inr ⟨i,hi,h1,by unfold pk;rw[jJ.mp h2];rfl⟩
 ·rintro(h|⟨i,hi,h1,h2⟩)
  ·exact .inl h
  ·refine .inr ⟨nd (ax ys) i,cP (by rw[aV];exact hi),h1,jJ.mpr ?_⟩;unfold pk at h2;injection h2
theorem sD {l:List Nd}{c:Int}{i:Nat}(hi:i<l.length)(h: (nd l i).c=c)(hb:∀k,k<i-> (nd l k).c≠c) :l.find? (fun y=>decide (y.c=c)) =some (nd l i) :=by
 rw[List.find?_eq_some_iff_getElem];refine⟨decide_eq_true h,i,hi,(ct hi).symm,fun j hj=>?_⟩;have:=hb j hj;rw[ct (by omega)]at this;simp[this]
theorem uw {ys:List aP}{j:Nat}(hj:j<ys.length) :∃i,i<=j/\fk (ck ys) ys.length (ck ys j) =some (.int .i64 i)/\ ((nd (ax ys) j).c≠0-> (wi (ax ys) (nd (ax ys) j)↔¬((nd (ax ys) j).m= (nd (ax ys) i).m/\ (nd (ax ys) j).d= (nd (ax ys) i).d))) :=by
 obtain⟨i,h1,h2,h3,h4⟩:=xo (f:=ck ys) hj;have hc: (nd (ax ys) i).c= (nd (ax ys) j).c:=by unfold ck at h3;injection h3
 have hb:∀k,k<i-> (nd (ax ys) k).c≠(nd (ax ys) j).c:=fun k hk e=>h4 k hk (by unfold ck;rw[e]);have hf:=sD (l:=ax ys) (by rw[aV];omega) hc hb;refine⟨i,h1,h2,fun h0=>?_⟩;unfold wi;constructor
 ·rintro⟨_,y,hy,h⟩ ⟨e1,e2⟩;rw[hf]at hy
  cases hy
  exact h ⟨e1.symm,e2.symm⟩
 ·intro h;exact⟨h0,_,hf,fun⟨e1,e2⟩=>h ⟨e1.symm,e2.symm⟩⟩
theorem zr {l:List Nd}{i:Nat}{R:Int}(hR:R=eR l i) : (wh l i->R=14)/\ (¬wh l i->¬qv l (nd l i)->R=13)/\ (¬wh l i->qv l (nd l i)->wi l (nd l i)->R=15)/\ (¬wh l i->qv l (nd l i)->¬wi l (nd l i)->R=0) :=by
 rw[hR];unfold eR;refine⟨fun h=>if_pos h,fun h h'=>?_,fun h h' h2=>?_,fun h h' h2=>?_⟩
 ·rw[if_neg h,if_pos h']
 ·rw[if_neg h,if_neg (fun c=>c h'),if_pos h2]
 ·rw[if_neg h,if_neg (fun c=>c h'),if_neg h2]
end Tre
namespace Reb
open Go.RowKit Go.Proofs.YtcjagakckffkiaaGreatDoor.Fit Pnm Tre Flt
def AG:Mb:=⟨⟨0,emp,0,emp,0⟩,[]⟩
def ma (A:List Mb)(i:Nat) :Mb:= (A[i]?).getD AG
theorem gB {A:List Mb}{i:Nat}(h:i<A.length) :ma A i=A[i] :=by unfold ma;rw[List.getElem?_eq_getElem h];rfl
theorem AF {A:List Mb}{i:Nat}{x:Mb}(h:A[i]? =some x) :ma A i=x:=by unfold ma;rw[h];rfl
theorem eI {A:List Mb}{i j:Nat}(h:i<j) :ma (A.take j) i=ma A i:=by unfold ma;rw[List.getElem?_take,if_pos h]
theorem ic {A:List Mb}{i:Nat}(B:List Mb)(h:i<A.length) :ma (A++B) i=ma A i:=by unfold ma;rw[List.getElem?_append_left h]
theorem lI (A:List Mb)(x:Mb) :ma (A++ [x]) A.length=x:=by unfold ma;simp
def qU (A:List Mb)(k:Int)(p:ByteArray) :Option Nat:=A.findIdx? fun x=>decide (x.e.k=k/\x.e.p=p)
theorem mv {A:List Mb}{k:Int}{p:ByteArray} :qU A k p=none↔∀i,i<A.length->¬((ma A i).e.k=k/\ (ma A i).e.p=p) :=by
 unfold qU;rw[List.findIdx?_eq_none_iff];constructor
 ·intro h i hi;have:=h (ma A i) (by rw[gB hi];exact List.getElem_mem hi)
  simpa using this
 ·intro h x hx;obtain⟨i,hi,rfl⟩:=List.getElem_of_mem hx;have:=h i hi;rw[gB hi]at this
  simpa using this
theorem fx {A:List Mb}{k:Int}{p:ByteArray}{r:Nat} :qU A k p=some r↔r<A.length/\ (ma A r).e.k=k/\ (ma A r).e.p=p/\∀i,i<r->¬((ma A i).e.k=k/\ (ma A i).e.p=p) :=by
 unfold qU;rw[List.findIdx?_eq_some_iff_getElem];constructor
 ·rintro⟨h,h1,h2⟩;have h1:A[r].e.k=k/\A[r].e.p=p:=of_decide_eq_true h1;refine⟨h,by rw[gB h];exact h1.1,by rw[gB h];exact h1.2,fun i hi=>?_⟩;have:=h2 i hi;rw[gB (by omega)]
  simpa using this
 ·rintro⟨h,h1,h2,h3⟩;rw[gB h]at h1 h2;refine⟨h,decide_eq_true ⟨h1,h2⟩,fun i hi=>?_⟩;have:=h3 i hi;rw[gB (by omega)]at this
  simpa using this
def wB (A:List Mb)(p:ByteArray) :Prop:=0<A.length/\0<=aR (ad (ma A (A.length- 1)).e.p) (ad p)
def tv (A:List Mb)(p:ByteArray) :Prop:=dt (ad p)≠ []/\qU A 0 (strOfNums (dt (ad p))) =none
def pg (A:List Mb)(e:fM) :Prop:=e.k=3/\∀r,qU A 1 e.t=some r-> (ma A r).e.m≠e.m
open Classical in
noncomputable def zO (A:List Mb)(e:fM) :Int:=if dn e≠0 then dn e else if wB A e.p then 12 else if tv A e.p then 13 else if pg A e then 15 else 0
open Classical in
noncomputable def DU (A:List Mb)(x:Mb) :Int:=if zO A x.e≠0 then zO A x.e else if(x.d.length:Int)≠x.e.s then 2 else 0
theorem lT {A:List Mb}{e:fM} :zO A e=0↔dn e=0/\¬wB A e.p/\¬tv A e.p/\¬pg A e:=by
 unfold zO;by_cases h0:dn e=0
 ·by_cases h1:wB A e.p
  ·simp[h0,h1]
  ·by_cases h2:tv A e.p
   ·simp[h0,h1,h2]
   ·by_cases h3:pg A e<;>simp[h0,h1,h2,h3]
 ·simp[h0]
theorem lR {A:List Mb}{x:Mb} :DU A x=0↔zO A x.e=0/\ (x.d.length:Int) =x.e.s:=by
 unfold DU;by_cases h0:zO A x.e=0
 ·by_cases h1: (x.d.length:Int) =x.e.s<;>simp[h0,h1]
 ·simp[h0]
def Gd (A:List Mb) :Prop:=∀i,i<A.length->DU (A.take i) (ma A i) =0
theorem Dc:Gd [] :=fun i h=>absurd h (Nat.not_lt_zero i)
theorem At {A:List Mb}(h:Gd A){x:Mb}(hx:DU A x=0) :Gd (A++ [x]) :=fun i hi=>by
 rw[List.length_append,List.length_singleton]at hi;by_cases e:i<A.length
 ·rw[ic _ e,List.take_append_of_le_length (by omega)];exact h i e
 ·obtain rfl:i=A.length:=by omega
  rw[lI,List.take_left];exact hx
theorem Gd.at_ {A:List Mb}(h:Gd A){i:Nat}(hi:i<A.length) :dn (ma A i).e=0/\ ((ma A i).d.length:Int) = (ma A i).e.s/\¬wB (A.take i) (ma A i).e.p/\¬tv (A.take i) (ma A i).e.p/\¬pg (A.take i) (ma A i).e:=by
 obtain⟨h1,h2⟩:=lR.mp (h i hi);obtain⟨h3,h4,h5,h6⟩:=lT.mp h1;exact⟨h3,h2,h4,h5,h6⟩
theorem Gd.next {A:List Mb}(h:Gd A){i:Nat}(hi:i+1<A.length) :aR (ad (ma A i).e.p) (ad (ma A (i+1)).e.p) = -1:=by
 have h1:= (h.at_ hi).2.2.1;have hl: (A.take (i+1)).length=i+1:=by rw[List.length_take];omega
 unfold wB at h1;rw[hl,Nat.add_sub_cancel,eI (Nat.lt_succ_self i)]at h1;have h2:¬0<=aR (ad (ma A i).e.p) (ad (ma A (i+1)).e.p) :=fun e=>h1 ⟨Nat.succ_pos i,e⟩;rcases fq (ad (ma A i).e.p) (ad (ma A (i+1)).e.p)with e|e|e<;>omega
theorem Gd.lt {A:List Mb}(h:Gd A){i:Nat} :∀{j:Nat},i<j->j<A.length->aR (ad (ma A i).e.p) (ad (ma A j).e.p) = -1
 |0,hij,_=>absurd hij (Nat.not_lt_zero i)
 |j+1,hij,hj=>by
  by_cases e:i=j
  ·subst e;exact h.next hj
  ·have h1:=h.lt (show i<j by omega) (by omega);have h2:=h.next hj;have h3:=cm _ _ _ (show aR (ad (ma A i).e.p) (ad (ma A j).e.p)<=0 by omega) (show aR (ad (ma A j).e.p) (ad (ma A (j+1)).e.p)<=0 by omega);rcases fq (ad (ma A i).e.p) (ad (ma A (j+1)).e.p)with e'|e'|e'
   ·exact e'
   ·have e2:= (cmp_eq _ _).mp e';rw[e2,fe,h2]at h1;omega
   ·omega
theorem Gd.inj {A:List Mb}(h:Gd A){i j:Nat}(hi:i<A.length)(hj:j<A.length)(e: (ma A i).e.p= (ma A j).e.p) :i=j:=by
 rcases Nat.lt_trichotomy i j with l|l|l
 ·have:=h.lt l hj;rw[e,(cmp_eq _ _).mpr rfl]at this;omega
 ·exact l
 ·have:=h.lt l hi;rw[e,(cmp_eq _ _).mpr rfl]at this;omega
theorem Gd.par {A:List Mb}(h:Gd A){i:Nat}(hi:i<A.length) :dt (ad (ma A i).e.p) = []\/∃j,j<i/\ (ma A j).e.k=0/\ (ma A j).e.p=strOfNums (dt (ad (ma A i).e.p)) :=by
 have h1:= (h.at_ hi).2.2.2.1;by_cases e:dt (ad (ma A i).e.p) = []
 ·exact .inl e
 cases hf:qU (A.take i) 0 (strOfNums (dt (ad (ma A i).e.p)))with
 |none=>exact absurd ⟨e,hf⟩ h1
 |some r=>
  obtain⟨r1,r2,r3,_⟩:=fx.mp hf;rw[List.length_take]at r1;rw[eI (by omega)]at r2 r3;exact .inr ⟨r,by omega,r2,r3⟩
theorem Gd.file {A:List Mb}(h:Gd A){i:Nat}(hi:i<A.length)(hk: (ma A i).e.k=3) :∃r,r<i/\ (ma A r).e.k=1/\ (ma A r).e.p= (ma A i).e.t/\ (ma A r).e.m= (ma A i).e.m/\qU A 1 (ma A i).e.t=some r:=by
 have h1:= (h.at_ hi).2.2.2.2
 have h2:∃r,qU (A.take i) 1 (ma A i).e.t=some r/\ (ma (A.take i) r).e.m= (ma A i).e.m:=by
  refine Classical.byContradiction fun hn=>h1 ⟨hk,fun r hr hm=>hn ⟨r,hr,hm⟩⟩
 obtain⟨r,hr,hm⟩:=h2;obtain⟨r1,r2,r3,r4⟩:=fx.mp hr;rw[List.length_take]at r1;have hri:r<i:=by omega
 rw[eI hri]at r2 r3 hm;refine⟨r,hri,r2,r3,hm,fx.mpr ⟨by omega,r2,r3,fun j hj hm'=>?_⟩⟩;exact r4 j hj (by rw[eI (by omega)];exact hm')
def fA (A:List Mb)(i:Nat) :Nd:=
 if(ma A i).e.k=3 then
  match qU A 1 (ma A i).e.t with
  |some r=>⟨1,(ma A i).e.p,(ma A i).e.m,emp,(ma A r).d,(r:Int) +1⟩
  |none=>Gj
 else⟨(ma A i).e.k,(ma A i).e.p,(ma A i).e.m,(ma A i).e.t,(ma A i).d,if(ma A i).e.k=1 then(i:Int) +1 else 0⟩
def bI (A:List Mb) :List Nd:= (List.range A.length).map (fA A)
theorem eC (A:List Mb) : (bI A).length=A.length:=by unfold bI;rw[List.length_map,List.length_range]
theorem dY {A:List Mb}{i:Nat}(h:i<A.length) :nd (bI A) i=fA A i:=by
 unfold nd bI;rw[List.getElem?_map,List.getElem?_range h];rfl
def Fj (A:List Mb)(i r:Nat) :Prop:=r<=i/\ (ma A r).e.k=1/\ (ma A r).e.m= (ma A i).e.m/\fA A i=⟨1,(ma A i).e.p,(ma A i).e.m,emp,(ma A r).d,(r:Int) +1⟩/\ ((ma A i).e.k=1->r=i)/\ ((ma A i).e.k=3->r<i/\ (ma A r).e.p= (ma A i).e.t)
theorem Gd.kinds {A:List Mb}(h:Gd A){i:Nat}(hi:i<A.length) : (∃r,Fj A i r)\/ ((ma A i).e.k=0\/ (ma A i).e.k=2)/\ (ma A i).d= []/\ (ma A i).e.s=0/\fA A i=⟨(ma A i).e.k,(ma A i).e.p,(ma A i).e.m,(ma A i).e.t,[],0⟩:=by
 obtain⟨hck,hds,_,_,_⟩:=h.at_ hi;have hok:=fw.mp hck;have k0:=hok.k0;have k4:=hok.k4;by_cases h3: (ma A i).e.k=3
 ·obtain⟨r,r1,r2,r3,r4,r5⟩:=h.file hi h3;refine .inl ⟨r,by omega,r2,r4,?_,fun h1=>absurd (h3.symm.trans h1) (by decide),fun _=>⟨r1,r3⟩⟩;unfold fA;rw[if_pos h3,r5]
 ·by_cases h1: (ma A i).e.k=1
  ·refine .inl ⟨i,aj,h1,rfl,?_,fun _=>rfl,fun h=>absurd h h3⟩
   have ht: (ma A i).e.t=emp:=by
    rcases(jT hok.tg).2.1 with⟨_,_,e⟩|⟨e,_⟩
    ·exact e
    ·omega
   unfold fA;rw[if_neg h3,if_pos h1,h1,ht]
  ·obtain⟨s0,_,s1⟩:=gr hok.sz;have hs:=s1 h1;have hd: (ma A i).d= [] :=List.length_eq_zero_iff.mp (by omega);refine .inr ⟨by omega,hd,hs,?_⟩;unfold fA;rw[if_neg h3,if_neg h1,hd]
theorem Gd.path {A:List Mb}(h:Gd A){i:Nat}(hi:i<A.length) : (fA A i).p= (ma A i).e.p:=by
 rcases h.kinds hi with⟨r,_,_,_,e,_⟩|⟨_,_,_,e⟩<;>rw[e]
theorem Gd.eD {A:List Mb}(h:Gd A) :pj (bI A) :=by
 unfold pj;rw[List.pairwise_iff_getElem];intro i j hi hj hij;rw[eC]at hi hj;rw[<- ct,<- ct,dY hi,dY hj];unfold Le key;rw[h.path hi,h.path hj,h.lt hij hj];decide
theorem Gd.val {A:List Mb}(h:Gd A) :wj (bI A) :=by
 have mem:∀{x},x∈bI A->∃i,i<A.length/\x=fA A i:=fun{x} hx=>by
  unfold bI at hx;obtain⟨i,hi,rfl⟩:=List.mem_map.mp hx;exact⟨i,List.mem_range.mp hi,rfl⟩
 refine⟨fun x hx=>?_,?_,fun x hx=>?_,fun x hx y hy h0 e=>?_⟩
 ·obtain⟨i,hi,rfl⟩:=mem hx;obtain⟨hck,hds,_,_,_⟩:=h.at_ hi;have hok:=fw.mp hck;rcases h.kinds hi with⟨r,r0,r1,r2,e,r3,r4⟩|⟨hk,hd,hs,e⟩
  ·obtain⟨hck',hds',_,_,_⟩:=h.at_ (show r<A.length by omega);have hok':=fw.mp hck'
   have hz:nH 1 ((ma A r).d.length:Int) =0:=by
    have:=hok'.sz;rw[r1]at this;rw[hds'];exact this
   have hc:dn (gj (fA A i)) =0:=by
    rw[e];refine fw.mpr ⟨by show(0:Int)<=1;decide,by show(1:Int) <4;decide,hok.path,hok.m0,hok.m1,fun h=>absurd h (by show¬(1:Int) =2;decide),rfl,?_⟩;unfold gj;exact hz
   unfold cI;rw[e]at hc⊢;rw[if_neg (by show¬((1:Int) <0\/2< (1:Int));decide),if_neg (by simpa using hc),if_neg (fun h=>h.1 rfl),if_neg];rintro(h|h)
   ·have h: (r:Int) +1<0:=h;omega
   ·exact h.1 rfl
  ·have hc:dn (gj (fA A i)) =0:=by
    rw[e]
    have e2:gj (⟨(ma A i).e.k,(ma A i).e.p,(ma A i).e.m,(ma A i).e.t,[],0⟩:Nd) = (ma A i).e:=by
     unfold gj;dsimp only;rw[if_neg (by omega),<- hs]
    rw[e2];exact hck
   unfold cI;rw[e]at hc⊢;dsimp only;rw[if_neg (by omega),if_neg (by simpa using hc),if_neg (fun h=>h.2 rfl),if_neg];rintro(h|h)
   ·exact absurd h (by decide)
   ·exact h.2 rfl
 ·unfold Cb;rw[List.pairwise_iff_getElem];intro i j hi hj hij e;rw[eC]at hi hj;rw[<- ct,<- ct,dY hi,dY hj,h.path hi,h.path hj]at e;have:=h.inj hi hj e;omega
 ·obtain⟨i,hi,rfl⟩:=mem hx;unfold qv key;rw[h.path hi];rcases h.par hi with e|⟨j,hj,hk,e⟩
  ·exact .inl e
  ·refine .inr ⟨fA A j,?_,?_,?_⟩
   ·unfold bI;exact List.mem_map.mpr ⟨j,List.mem_range.mpr (by omega),rfl⟩
   ·rcases h.kinds (show j<A.length by omega)with⟨r,r0,r1,r2,e',r3,r4⟩|⟨_,_,_,e'⟩
    ·exfalso;have hok:=fw.mp (h.at_ (show j<A.length by omega)).1
     have:fA A j=⟨0,(ma A j).e.p,(ma A j).e.m,(ma A j).e.t,(ma A j).d,0⟩:=by
      unfold fA;rw[if_neg (by omega),if_neg (by omega),hk]
     rw[e']at this;have:=congrArg Nd.k this;exact absurd this (by show¬(1:Int) =0;decide)
    ·rw[e'];exact hk
   ·rw[h.path (by omega),e];exact ak (oK _)
 ·obtain⟨i,hi,rfl⟩:=mem hx;obtain⟨j,hj,rfl⟩:=mem hy;rcases h.kinds hi with⟨r,_,_,r2,e1,_⟩|⟨_,_,_,e1⟩
  ·rcases h.kinds hj with⟨q,_,_,q2,e2,_⟩|⟨_,_,_,e2⟩
   ·rw[e1,e2]at e;rw[e1,e2];have e: (r:Int) +1= (q:Int) +1:=e;obtain rfl:r=q:=by omega
    exact⟨r2.symm.trans q2,rfl⟩
   ·rw[e1,e2]at e;have e: (r:Int) +1=0:=e;omega
  ·rw[e1]at h0;exact absurd rfl h0
theorem Gd.uq {A:List Mb}(h:Gd A) :uq (bI A) =A:=by
 refine List.ext_getElem? fun i=>?_;by_cases hi:i<A.length
 ·have hl:i< (bI A).length:=by rw[eC];exact hi
  rw[iS hl,List.getElem?_eq_getElem hi,<- gB hi]
  congr 1
  have cl:∀j,j<A.length-> (nd (bI A) j).c= (fA A j).c:=fun j hj=>by rw[dY hj]
  rcases h.kinds hi with⟨r,r0,r1,r2,e,r3,r4⟩|⟨hk,hd,hs,e⟩
  ·
   obtain⟨hck,hds,_,_,_⟩:=h.at_ hi;have hok:=fw.mp hck;have ei: (nd (bI A) i).c= (r:Int) +1:=by rw[cl i hi,e]
   by_cases h3: (ma A i).e.k=3
   ·obtain⟨r5,r6⟩:=r4 h3
    have er: (nd (bI A) r).c= (r:Int) +1:=by
     rw[cl r (by omega)];rcases h.kinds (show r<A.length by omega)with⟨q,_,_,_,e',q3,_⟩|⟨hk',_,_,_⟩
     ·rw[e',q3 r1]
     ·omega
    have hf:fr (bI A) i (nd (bI A) i).c=some (nd (bI A) r) :=by
     refine Cj (by omega) r5 (by omega) (by rw[er,ei]) ((fO (by rw[eC];omega)).mpr fun j hj hm=>?_);rcases h.kinds (show j<A.length by omega)with⟨q,q0,_,_,e',_,_⟩|⟨_,_,_,e'⟩
     ·have: (nd (bI A) j).c= (q:Int) +1:=by rw[cl j (by omega),e']
      omega
     ·have: (nd (bI A) j).c=0:=by rw[cl j (by omega),e']
      omega
    rw[eJ hf,dY (show r<A.length by omega),h.path (by omega),r6,dY hi,e];obtain⟨_,_,s1⟩:=gr hok.sz;have hs:=s1 (by omega);have hd: (ma A i).d= [] :=List.length_eq_zero_iff.mp (by omega);generalize ma A i=x at*;obtain⟨⟨k,p,m,t,s⟩,d⟩:=x;dsimp only at*;subst h3;subst hs;subst hd;rfl
   ·have h1: (ma A i).e.k=1:=by
     have:=hok.k0;have:=hok.k4;rcases Classical.em ((ma A i).e.k=1)with h|h
     ·exact h
     ·have e2:fA A i=⟨(ma A i).e.k,(ma A i).e.p,(ma A i).e.m,(ma A i).e.t,(ma A i).d,0⟩:=by
       unfold fA;rw[if_neg h3,if_neg h]
      rw[e]at e2;exact absurd (congrArg Nd.k e2).symm h
    obtain rfl:=r3 h1
    have hf:fr (bI A) r (nd (bI A) r).c=none:= (fO (by omega)).mpr fun j hj hm=>by
     rcases h.kinds (show j<A.length by omega)with⟨q,q0,_,_,e',_,_⟩|⟨_,_,_,e'⟩
     ·have: (nd (bI A) j).c= (q:Int) +1:=by rw[cl j (by omega),e']
      omega
     ·have: (nd (bI A) j).c=0:=by rw[cl j (by omega),e']
      omega
    rw[dz hf,dY hi,e]
    have ht: (ma A r).e.t=emp:=by
     rcases(jT hok.tg).2.1 with⟨_,_,e⟩|⟨e,_⟩
     ·exact e
     ·omega
    generalize ma A r=x at*;obtain⟨⟨k,p,m,t,s⟩,d⟩:=x;dsimp only at*;subst h1;subst ht;unfold vA gj;dsimp only;rw[if_pos rfl,hds]
  ·have hf:fr (bI A) i (nd (bI A) i).c=none:= (fO (by omega)).mpr fun j hj hm=>by
    have: (nd (bI A) i).c=0:=by rw[cl i hi,e]
    omega
   rw[dz hf,dY hi,e];generalize ma A i=x at*;obtain⟨⟨k,p,m,t,s⟩,d⟩:=x;dsimp only at*;subst hs;subst hd;unfold vA gj;dsimp only;rw[if_neg (by omega)]
 ·rw[List.getElem?_eq_none (by rw[fi,eC];omega),List.getElem?_eq_none (by omega)]
theorem Cx {C:List Nd}(h:Flt.Can C) :Gd (Flt.uq C) :=by
 intro i hi;rw[fi]at hi;have am:∀j,j<C.length->ma (Flt.uq C) j=mb C j:=fun j hj=>AF (iS hj);have ap:∀j,j<C.length-> (ma (Flt.uq C) j).e.p= (nd C j).p:=fun j hj=>by rw[am j hj];exact(AO C j).1
 have hl: ((Flt.uq C).take i).length=i:=by rw[List.length_take,fi];omega
 refine lR.mpr ⟨lT.mpr ⟨by rw[am i hi];exact h.ck hi,?_,?_,?_⟩,?_⟩
 ·rintro⟨h0,h1⟩;rw[hl]at h0 h1;rw[eI (by omega),ap _ (by omega),ap i hi]at h1;have:=h.lt (show i- 1<i by omega) hi;unfold key at this;omega
 ·rintro⟨h0,h1⟩;rw[ap i hi]at h0 h1;rcases h.par hi with e|⟨j,hj,hk,e⟩
  ·exact h0 e
  ·have hn:=mv.mp h1 j (by omega);rw[eI hj,am j (by omega)]at hn
   have hf:fr C j (nd C j).c=none:=by
    cases hfr:fr C j (nd C j).c with
    |none=>rfl
    |some y=>
     obtain⟨_,_,_,_,k1,_⟩:=h.Ec (show j<C.length by omega) hfr;omega
   refine hn ⟨?_,?_⟩
   ·rw[dz hf];exact hk
   ·rw[(AO C j).1];exact jJ.mp e
 ·rintro⟨h0,h1⟩;rw[am i hi]at h0 h1;obtain⟨y,hy⟩:= (h.k3 hi).mp h0;obtain⟨r,hr,hrn,k1,_,hn,hm,_,_,_⟩:=h.Ec hi hy;have ht: (mb C i).e.t= (nd C r).p:=by rw[eJ hy,hrn];rfl
  have hf:qU ((Flt.uq C).take i) 1 (mb C i).e.t=some r:=by
   refine fx.mpr ⟨by omega,?_,?_,fun j hj hm'=>?_⟩
   ·rw[eI hr,am r (by omega),dz hn];exact k1
   ·rw[eI hr,ap r (by omega),ht]
   ·rw[eI (by omega),ap j (by omega),ht]at hm';have:=h.at_ (show j<C.length by omega) (show r<C.length by omega) hm'.2;omega
  refine h1 r hf ?_;rw[eI hr,am r (by omega),(AO C r).2,(AO C i).2];exact hm
 ·rw[am i hi]
  cases hfr:fr C i (nd C i).c with
  |some y=>rw[eJ hfr];rfl
  |none=>
   rw[dz hfr];have o:=kW (h.v.one _ (cP hi));show((nd C i).d.length:Int) =if(nd C i).k=1 then((nd C i).d.length:Int)else 0;by_cases hk: (nd C i).k=1
   ·rw[if_pos hk]
   ·rw[if_neg hk,o.2.2.1 hk];rfl
end Reb
end Go.Proofs.YtcjagakckffkiaaGreatDoor
