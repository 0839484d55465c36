import Derived.Test.YtcjagakckffkiaaGreatDoorQ8
import Derived.Test.YtcjagakckffkiaaGreatDoorQ1
import Derived.MapKept
import Derived.Test.YtcjagakckffkiaaGreatDoorQ9
import Derived.Test.YtcjagakckffkiaaGreatDoorQ7
set_option maxHeartbeats 16000000
namespace Go.Proofs.YtcjagakckffkiaaGreatDoor
open Go.RowKit Go.MapKept
open Classical in
noncomputable def lk:List MapEntry->Value->Option Value
 | [],_=>none
 |e::es,k=>if e.key=k then some e.val else lk es k
theorem qa {d:TypeDesc}{k:Value}(hk:IsKey d k) :∀(l:List MapEntry) (i:Nat),(∀x∈l,IsKey d x.key)->
 (Instr.findNow d k l i=some none/\lk l k=none)\/∃l1 e l2,l=l1++e::l2/\e.key=k/\ (∀x∈l1,x.key≠k)/\Instr.findNow d k l i=some (some (i+l1.length,e.val))/\lk l k=some e.val
 | [],i,_=> .inl ⟨rfl,rfl⟩
 |x::l,i,h=>by
  obtain⟨r,hr,hiff⟩:=sameNow_of_keys hk (h x (.head _))
  cases r with
  |true=>
   have e:=hiff.1 rfl;exact .inr ⟨[],x,l,rfl,e.symm,(fun _ h=>by cases h),by simp[Instr.findNow,hr],by unfold lk;rw[if_pos e.symm]⟩
  |false=>
   have ne:x.key≠k:=fun e=>by have:=hiff.2 e.symm;cases this
   rcases qa hk l (i+1) (fun y hy=>h y (.tail _ hy))with⟨h1,h2⟩|⟨l1,e,l2,rfl,h2,h3,h4,h5⟩
   ·exact .inl ⟨by simp[Instr.findNow,hr,h1],by unfold lk;rw[if_neg ne];exact h2⟩
   ·exact .inr ⟨x::l1,e,l2,rfl,h2,(fun y hy=>by
     rcases List.mem_cons.1 hy with rfl|hy
     ·exact ne
     ·exact h3 y hy),by simp[Instr.findNow,hr,h4];omega,by unfold lk;rw[if_neg ne];exact h5⟩
theorem iG {k:Value} :∀(l1 l2:List MapEntry),(∀x∈l1,x.key≠k)->lk (l1++l2) k=lk l2 k
 | [],_,_=>rfl
 |x::l1,l2,h=>by
  rw[List.cons_append,lk,if_neg (h x (.head _))];exact iG l1 l2 fun y hy=>h y (.tail _ hy)
theorem vB {k:Value} :∀{l:List MapEntry},lk l k=none->∀x∈l,x.key≠k
 | [],_,_,h=>by cases h
 |y::l,h,x,hx=>by
  unfold lk at h;by_cases c:y.key=k
  ·rw[if_pos c]at h;cases h
  ·rw[if_neg c]at h;rcases List.mem_cons.1 hx with rfl|hx
   ·exact c
   ·exact vB h x hx
theorem qV {k k':Value}{e e':MapEntry}(he:e.key=k)(he':e'.key=k)(h:k'≠k) :∀(l1 l2:List MapEntry),lk (l1++e'::l2) k'=lk (l1++e::l2) k'
 | [],l2=>by
  rw[List.nil_append,List.nil_append,lk,lk,if_neg (by rw[he'];exact fun c=>h c.symm),if_neg (by rw[he];exact fun c=>h c.symm)]
 |x::l1,l2=>by
  rw[List.cons_append,List.cons_append,lk,lk,qV he he' h l1 l2]
theorem uS {k:Value}{e:MapEntry}(he:e.key≠k) :∀l:List MapEntry,lk (l++ [e]) k=lk l k
 | [] =>by rw[List.nil_append];unfold lk;rw[if_neg he];rfl
 |x::l=>by rw[List.cons_append,lk,lk,uS he l]
open Classical in
noncomputable def rW (F:Value->Option Value)(k v:Value) :Value->Option Value:=fun k'=>if k'=k then some v else F k'
theorem cP (F:Value->Option Value)(k v:Value) :rW F k v k=some v:=by unfold rW;rw[if_pos rfl]
theorem eV {F:Value->Option Value}{k v k':Value}(h:k'≠k) :rW F k v k'=F k':=by unfold rW;rw[if_neg h]
def dP (w:World)(g:Nat)(d:TypeDesc)(n:Nat)(F:Value->Option Value) :Prop:=
 ∃(xs:Array MapEntry) (clk:Nat),w.heap[g]? =some (.map xs clk)/\ (∀x∈xs.toList,IsKey d x.key)/\xs.size=n/\∀k,lk xs.toList k=F k
theorem dP.lt {w:World}{g n:Nat}{d:TypeDesc}{F:Value->Option Value}(h:dP w g d n F) :g<w.heap.size:=by
 obtain⟨xs,clk,h,_⟩:=h;exact(Array.getElem?_eq_some_iff.1 h).1
theorem dP.block {w w':World}{g n:Nat}{d:TypeDesc}{F:Value->Option Value}(h:dP w g d n F)(e:w'.heap[g]? =w.heap[g]?) :dP w' g d n F:=by
 obtain⟨xs,clk,h,h2⟩:=h;exact⟨xs,clk,e.trans h,h2⟩
theorem dP.below {w w':World}{B g n:Nat}{d:TypeDesc}{F:Value->Option Value}(h:dP w g d n F)(hb:Below B w w')(hg:g<B) :dP w' g d n F:=h.block (hb.block g hg)
section
variable {P:Program} {w:World} {ops:Array Oper} {rest:List Oper} {o:Oper} {a:Act} {Q:Exit->Act->World->Prop}
theorem bH (hgd:o.guard=none)(T:TypeId)(ho:o.op= .makeMap T none)(d:TypeDesc)
 (K:∀w',dP w' w.heap.size d 0 (fun _=>none)->Below w.heap.size w w'->wpList P ops Q rest (a.put o.dst (.map (some w.heap.size))) w') :wpList P ops Q (o::rest) a w:=by
 refine wpList_plain hgd fun K' hK=>?_;unfold Oper.wp;simp[execOp,ho,run_makeMap,Result.andThen];exact hK _ _ (K _ ⟨#[],0,heap_alloc_new w _,(fun x h=>by simp at h),rfl,fun k=>rfl⟩ (aF.alloc ah _))
theorem cE (hgd:o.guard=none)(T:TypeId)(m k x:Operand)(ho:o.op= .mapUpdate T m k x)(kt et:TypeId)(hT:P.underlying T=some (.map kt et))(d:TypeDesc)(hk:P.underlying kt=some d)
 (g:Nat)(hm:a.eval m= .map (some g))(kv:Value)(hkv:a.eval k=kv)(hkey:IsKey d kv)(v:Value)(hv:a.eval x=v)(n:Nat)(F:Value->Option Value)(hg:dP w g d n F)
 (K:∀w',dP w' g d (if F kv=none then n+1 else n) (rW F kv v)->cX w w' g->wpList P ops Q rest (a.put o.dst undef) w') :wpList P ops Q (o::rest) a w:=by
 refine wpList_plain hgd fun K' hK=>?_;obtain⟨xs,clk,h1,h2,h3,h4⟩:=hg;have hlt:g<w.heap.size:= (Array.getElem?_eq_some_iff.1 h1).1
 have vQ:∀(xs':Array MapEntry) (c':Nat),cX w {w with heap:=w.heap.setIfInBounds g (.map xs' c')} g:=fun xs' c'=>⟨fun hB=>⟨rfl,rfl,rfl,by simp,fun i hi=>by
  show(w.heap.setIfInBounds g _)[i]? =w.heap[i]?;rw[Array.getElem?_setIfInBounds_ne (by omega)]⟩,fun{k} hkg=>by
  show(w.heap.setIfInBounds g _)[k]? =w.heap[k]?;rw[Array.getElem?_setIfInBounds_ne (by omega)],by simp⟩
 rcases qa hkey xs.toList 0 h2 with⟨f1,f2⟩|⟨l1,e,l2,f1,f2,f3,f4,f5⟩
 ·have hF:F kv=none:=by rw[<- h4];exact f2
  have hrun: (Instr.mapUpdate T (.map (some g)) kv v).run P w= .ok () {w with heap:=w.heap.setIfInBounds g (.map (xs.push {key:=kv,val:=v,born:=clk}) (clk+1))} :=by
   simp[Instr.mapUpdate,run_underlying hT,Go.MapKept.run_getObj_map h1,run_checkKey (w:=w) hk hkey,run_findKey (w:=w) hk f1,Go.MapKept.run_setObj_map _ h1,Result.andThen]
  unfold Oper.wp;simp[execOp,ho,hm,hkv,hv,hrun,Result.andThen];refine hK _ _ (K _ ⟨xs.push {key:=kv,val:=v,born:=clk},clk+1,by simp[hlt],?_,?_,?_⟩ (vQ _ _))
  ·intro x hx;simp only[Array.toList_push,List.mem_append,List.mem_singleton]at hx;rcases hx with hx|rfl
   ·exact h2 x hx
   ·exact hkey
  ·rw[if_pos hF,Array.size_push,h3]
  ·intro k';rw[Array.toList_push];by_cases c:k'=kv
   ·subst c;rw[cP,iG _ _ (vB f2),lk,if_pos rfl]
   ·rw[eV c,uS (fun h=>c h.symm),h4]
 ·have hF:F kv≠none:=by rw[<- h4,f5];exact fun h=>by cases h
  have hlen:l1.length<xs.toList.length:=by rw[f1];simp
  have hj:xs[l1.length]? =some e:=by
   rw[<- Array.getElem?_toList,f1,List.getElem?_append_right ah,Nat.sub_self];rfl
  rw[Nat.zero_add]at f4
  have hrun: (Instr.mapUpdate T (.map (some g)) kv v).run P w= .ok () {w with heap:=w.heap.setIfInBounds g (.map (xs.modify l1.length fun e=> {e with key:=kv,val:=v}) clk)} :=by
   simp[Instr.mapUpdate,run_underlying hT,Go.MapKept.run_getObj_map h1,run_checkKey (w:=w) hk hkey,run_findKey (w:=w) hk f4,hj,f2,run_keyThatStays hkey,Go.MapKept.run_setObj_map _ h1,Result.andThen]
  have hl: (xs.modify l1.length fun e=> {e with key:=kv,val:=v}).toList=l1++ {e with key:=kv,val:=v} ::l2:=by
   rw[Array.toList_modify,f1,List.modify_eq_take_cons_drop (by simp)];simp
  unfold Oper.wp;simp[execOp,ho,hm,hkv,hv,hrun,Result.andThen];refine hK _ _ (K _ ⟨xs.modify l1.length fun e=> {e with key:=kv,val:=v},clk,by simp[hlt],?_,?_,?_⟩ (vQ _ _))
  ·rw[hl];intro x hx;rcases List.mem_append.1 hx with hx|hx
   ·exact h2 x (by rw[f1];exact List.mem_append_left _ hx)
   ·rcases List.mem_cons.1 hx with rfl|hx
    ·exact hkey
    ·exact h2 x (by rw[f1];exact List.mem_append_right _ (List.mem_cons_of_mem _ hx))
  ·rw[if_neg hF,Array.size_modify,h3]
  ·intro k';rw[hl];by_cases c:k'=kv
   ·subst c;rw[cP,iG _ _ f3,lk,if_pos rfl]
   ·rw[eV c,qV (k:=kv) f2 rfl c,<- f1,h4]
theorem bI (T kt et:TypeId)(hT:P.underlying T=some (.map kt et))(d:TypeDesc)(hk:P.underlying kt=some d)(z:Value)(hz: (P.info? et).map (·.zero) =some (some z))
 (g n:Nat)(kv:Value)(hkey:IsKey d kv)(F:Value->Option Value)(hg:dP w g d n F) :
 (Instr.lookup T (.map (some g)) kv true).run P w= .ok (.tuple #[(F kv).getD z,.bool (F kv).isSome]) w/\ (Instr.lookup T (.map (some g)) kv false).run P w= .ok ((F kv).getD z) w:=by
 obtain⟨xs,clk,h1,h2,h3,h4⟩:=hg
 cases hq:P.info? et with
 |none=>simp[hq]at hz
 |some j=>
  have hj:j.zero=some z:=by simpa [hq]using hz
  rcases qa hkey xs.toList 0 h2 with⟨f1,f2⟩|⟨l1,e,l2,f1,f2,f3,f4,f5⟩
  ·rw[<- h4,f2];constructor<;>simp[Instr.lookup,run_underlying hT,Go.MapKept.run_getObj_map h1,run_checkKey (w:=w) hk hkey,run_findKey (w:=w) hk f1,zeroValue,typeInfo,hq,hj,Result.andThen]
  ·rw[<- h4,f5];constructor<;>simp[Instr.lookup,run_underlying hT,Go.MapKept.run_getObj_map h1,run_checkKey (w:=w) hk hkey,run_findKey (w:=w) hk f4,Result.andThen]
theorem FO (T kt et ty:TypeId)(hT:P.underlying T=some (.map kt et))(d:TypeDesc)(g n:Nat)(F:Value->Option Value)(hg:dP w g d n F) :
 (Builtin.len_ #[T] ty #[.map (some g)]).run P w= .ok (goInt n) w:=by
 obtain⟨xs,clk,h1,h2,h3,h4⟩:=hg;simp[Builtin.len_,run_underlying hT,Go.MapKept.run_getObj_map h1,h3,Result.andThen]
end
end Go.Proofs.YtcjagakckffkiaaGreatDoor
namespace Go.Proofs.YtcjagakckffkiaaGreatDoor.Tre
open Go.RowKit Go.MapKept Go.Proofs.YtcjagakckffkiaaGreatDoor.Fit
noncomputable def fk (f:Nat->Value) :Nat->Value->Option Value
 |0,_=>none
 |n+1,v=>match fk f n v with
  |some x=>some x
  |none=>rW (fun _=>none) (f n) (.int .i64 n) v
theorem vm (f:Nat->Value) :fk f 0=fun _=>none:=by funext v;rw[fk]
theorem EF {f:Nat->Value}{n:Nat}(h: (fk f n (f n)).isSome=true) :fk f (n+1) =fk f n:=by
 funext v
 rw[fk]
 cases e:fk f n v with
 |some x=>rfl
 |none=>
  rw[eV];intro c;subst c;rw[e]at h
  cases h
theorem Dl {f:Nat->Value}{n:Nat}(h:fk f n (f n) =none) :fk f (n+1) =rW (fk f n) (f n) (.int .i64 n) :=by
 funext v
 rw[fk];by_cases c:v=f n
 ·subst c;rw[h,cP];exact(cP (fk f n) (f n) _).symm
 ·rw[eV (F:=fk f n) c]
  cases e:fk f n v with
  |some x=>rfl
  |none=>exact eV c
theorem uX {f:Nat->Value} :∀{n:Nat} {v:Value},fk f n v=none↔∀i,i<n->f i≠v
 |0,v=>⟨fun _ i h=>absurd h (Nat.not_lt_zero i),fun _=>by rw[vm]⟩
 |n+1,v=>by
  rw[fk];have ih:=uX (f:=f) (n:=n) (v:=v)
  cases e:fk f n v with
  |some x=>
   refine⟨fun h=>absurd h (by simp),fun h=>?_⟩;have:=ih.mpr fun i hi=>h i (by omega);rw[e]at this;cases this
  |none=>
   have hn:=ih.mp e;by_cases c:v=f n
   ·subst c;refine⟨fun h=>?_,fun h=>absurd rfl (h n (by omega))⟩;rw[show rW (fun _=>none) (f n) (.int .i64 n) (f n) =_ from cP _ _ _]at h;cases h
   ·refine⟨fun _ i hi=>?_,fun _=>eV c⟩;by_cases hin:i<n
    ·exact hn i hin
    ·obtain rfl:i=n:=by omega
     exact fun h=>c h.symm
noncomputable def dk (k:Nat->Int)(f:Nat->Value) :Nat->Value->Option Value
 |0,_=>none
 |n+1,v=>if k n=0 then rW (dk k f n) (f n) (.bool true) v else dk k f n v
theorem Kw (k:Nat->Int)(f:Nat->Value) :dk k f 0=fun _=>none:=by funext v;rw[dk]
theorem Qc {k:Nat->Int}{f:Nat->Value}{n:Nat}(h:k n=0) :dk k f (n+1) =rW (dk k f n) (f n) (.bool true) :=by funext v;rw[dk,if_pos h]
theorem Om {k:Nat->Int}{f:Nat->Value}{n:Nat}(h:k n≠0) :dk k f (n+1) =dk k f n:=by funext v;rw[dk,if_neg h]
open Classical in
theorem Ma {k:Nat->Int}{f:Nat->Value} :∀(n:Nat) (v:Value),dk k f n v=if∃i,i<n/\k i=0/\f i=v then some (.bool true)else none
 |0,v=>by rw[if_neg (by rintro⟨i,h,_⟩;omega),dk]
 |n+1,v=>by
  rw[dk];have ih:=Ma (k:=k) (f:=f) n v;by_cases c:k n=0
  ·rw[if_pos c];by_cases d:v=f n
   ·subst d;rw[cP,if_pos ⟨n,by omega,c,rfl⟩]
   ·rw[eV d,ih]
    congr 1
    apply propext;constructor
    ·rintro⟨i,h1,h2⟩;exact⟨i,by omega,h2⟩
    ·rintro⟨i,h1,h2,h3⟩;refine⟨i,?_,h2,h3⟩;by_cases e:i=n
     ·subst e;exact absurd h3.symm d
     ·omega
  ·rw[if_neg c,ih]
   congr 1
   apply propext;constructor
   ·rintro⟨i,h1,h2⟩;exact⟨i,by omega,h2⟩
   ·rintro⟨i,h1,h2,h3⟩;refine⟨i,?_,h2,h3⟩;by_cases e:i=n
    ·subst e;exact absurd h2 c
    ·omega
def pk (ys:List aL)(i:Nat) :Value:= .string (nd (aI ys) i).p
def ck (ys:List aL)(i:Nat) :Value:= .int .i64 (nd (aI ys) i).c
def kk (ys:List aL)(i:Nat) :Int:= (nd (aI ys) i).k
theorem oI {ys:List aL}{i:Nat}{y:aL}(h:ys[i]? =some y) :nd (aI ys) i=y.n:=by unfold nd;rw[gj h];rfl
end Go.Proofs.YtcjagakckffkiaaGreatDoor.Tre
namespace Go.Proofs.YtcjagakckffkiaaGreatDoor.Tre
open Go.RowKit Go.MapKept Go.Proofs.YtcjagakckffkiaaGreatDoor.Fit Pnm
theorem Hw {f:Nat->Value} :∀{n:Nat} {v z:Value},fk f n v=some z->∃i,i<n/\z= .int .i64 i/\f i=v/\∀k,k<i->f k≠v
 |0,v,z,h=>by rw[fk]at h;cases h
 |n+1,v,z,h=>by
  cases e:fk f n v with
  |some x=>
   rw[fk,e]at h;obtain⟨i,h1,h2,h3,h4⟩:=Hw e
   cases h
   exact⟨i,by omega,h2,h3,h4⟩
  |none=>
   have hn:=uX.mp e;rw[fk,e]at h;by_cases c:v=f n
   ·subst c;have h':some (Value.int .i64 n) =some z:= (cP (fun _=>none) (f n) (.int .i64 n)).symm.trans h
    cases h'
    exact⟨n,by omega,rfl,rfl,hn⟩
   ·have h':none=some z:= (eV (F:=fun _=>none) c).symm.trans h
    cases h'
theorem Hz {f:Nat->Value}{n j:Nat}(hj:j<n) :∃i,i<=j/\fk f n (f j) =some (.int .i64 i)/\f i=f j/\∀k,k<i->f k≠f j:=by
 cases e:fk f n (f j)with
 |none=>exact absurd rfl (uX.mp e j hj)
 |some z=>
  obtain⟨i,h1,rfl,h3,h4⟩:=Hw e;refine⟨i,?_,rfl,h3,h4⟩;apply Decidable.byContradiction;intro c;exact h4 j (by omega) rfl
theorem Mp {ys:List aL}{i j:Nat} :pk ys i=pk ys j↔(nd (aI ys) i).p= (nd (aI ys) j).p:=by
 unfold pk;constructor
 ·intro h;cases h': (nd (aI ys) i).p;rw[h']at h;injection h
 ·intro h;rw[h]
theorem Jj {ys:List aL}{n j:Nat}(hj:j<n) :∃i,i<=j/\fk (pk ys) n (pk ys j) =some (.int .i64 i)/\ (i≠j↔Iq (aI ys) j) :=by
 obtain⟨i,h1,h2,h3,h4⟩:=Hz (f:=pk ys) hj;refine⟨i,h1,h2,fun h=>⟨i,by omega,Mp.mp h3⟩,?_⟩;rintro⟨k,k1,k2⟩ rfl;exact h4 k k1 (Mp.mpr k2)
theorem wg {zs:List Int} :strOfNums zs=emp↔zs= [] :=by
 constructor
 ·intro h;have:=congrArg ByteArray.size h;rw[strOfNums_size]at this;exact List.length_eq_zero_iff.mp this
 ·rintro rfl;rfl
theorem tc (p:ByteArray) :Bytes (bh (af p)) :=by
 unfold bh
 split
 ·intro z hz;cases hz
 ·intro z hz;exact dw p z (List.mem_of_mem_take hz)
theorem ui {p q:ByteArray} :af q=bh (af p)↔q=strOfNums (bh (af p)) :=by
 constructor
 ·intro h;rw[<- h,az]
 ·rintro rfl;exact av (tc p)
theorem Jn {ys:List aL}{x:Nd} :CD (aI ys) x↔strOfNums (bh (key x)) =emp\/∃i,i<ys.length/\kk ys i=0/\pk ys i= .string (strOfNums (bh (key x))) :=by
 unfold CD;rw[wg];constructor
 ·rintro(h|⟨y,hy,h1,h2⟩)
  ·exact .inl h
  ·obtain⟨i,hi,rfl⟩:=th hy;rw[bg]at hi;exact .inr ⟨i,hi,h1,by unfold pk;rw[ui.mp h2];rfl⟩
 ·rintro(h|⟨i,hi,h1,h2⟩)
  ·exact .inl h
  ·refine .inr ⟨nd (aI ys) i,cK (by rw[bg];exact hi),h1,ui.mpr ?_⟩;unfold pk at h2;injection h2
theorem yD {l:List Nd}{c:Int}{i:Nat}(hi:i<l.length)(h: (nd l i).c=c)(hb:∀k,k<i-> (nd l k).c≠c) :l.find? (fun y=>decide (y.c=c)) =some (nd l i) :=by
 rw[List.find?_eq_some_iff_getElem];refine⟨decide_eq_true h,i,hi,(cw hi).symm,fun j hj=>?_⟩;have:=hb j hj;rw[cw (by omega)]at this;simp[this]
theorem KH {ys:List aL}{j:Nat}(hj:j<ys.length) :∃i,i<=j/\fk (ck ys) ys.length (ck ys j) =some (.int .i64 i)/\ ((nd (aI ys) j).c≠0-> (Io (aI ys) (nd (aI ys) j)↔¬((nd (aI ys) j).m= (nd (aI ys) i).m/\ (nd (aI ys) j).d= (nd (aI ys) i).d))) :=by
 obtain⟨i,h1,h2,h3,h4⟩:=Hz (f:=ck ys) hj;have hc: (nd (aI ys) i).c= (nd (aI ys) j).c:=by unfold ck at h3;injection h3
 have hb:∀k,k<i-> (nd (aI ys) k).c≠(nd (aI ys) j).c:=fun k hk e=>h4 k hk (by unfold ck;rw[e]);have hf:=yD (l:=aI ys) (by rw[bg];omega) hc hb;refine⟨i,h1,h2,fun h0=>?_⟩;unfold Io;constructor
 ·rintro⟨_,y,hy,h⟩ ⟨e1,e2⟩;rw[hf]at hy
  cases hy
  exact h ⟨e1.symm,e2.symm⟩
 ·intro h;exact⟨h0,_,hf,fun⟨e1,e2⟩=>h ⟨e1.symm,e2.symm⟩⟩
theorem NJ {l:List Nd}{i:Nat}{R:Int}(hR:R=jo l i) : (Iq l i->R=14)/\ (¬Iq l i->¬CD l (nd l i)->R=13)/\ (¬Iq l i->CD l (nd l i)->Io l (nd l i)->R=15)/\ (¬Iq l i->CD l (nd l i)->¬Io l (nd l i)->R=0) :=by
 rw[hR];unfold jo;refine⟨fun h=>if_pos h,fun h h'=>?_,fun h h' h2=>?_,fun h h' h2=>?_⟩
 ·rw[if_neg h,if_pos h']
 ·rw[if_neg h,if_neg (fun c=>c h'),if_pos h2]
 ·rw[if_neg h,if_neg (fun c=>c h'),if_neg h2]
end Go.Proofs.YtcjagakckffkiaaGreatDoor.Tre
namespace Go.Proofs.YtcjagakckffkiaaGreatDoor.Reb
open Go.RowKit Go.Proofs.YtcjagakckffkiaaGreatDoor.Fit Pnm Tre Flt
def Ja:Mb:=⟨⟨0,emp,0,emp,0⟩,[]⟩
def ma (A:List Mb)(i:Nat) :Mb:= (A[i]?).getD Ja
theorem js {A:List Mb}{i:Nat}(h:i<A.length) :ma A i=A[i] :=by unfold ma;rw[List.getElem?_eq_getElem h];rfl
theorem Jl {A:List Mb}{i:Nat}{x:Mb}(h:A[i]? =some x) :ma A i=x:=by unfold ma;rw[h];rfl
theorem fM {A:List Mb}{i j:Nat}(h:i<j) :ma (A.take j) i=ma A i:=by unfold ma;rw[List.getElem?_take,if_pos h]
theorem ju {A:List Mb}{i:Nat}(B:List Mb)(h:i<A.length) :ma (A++B) i=ma A i:=by unfold ma;rw[List.getElem?_append_left h]
theorem nI (A:List Mb)(x:Mb) :ma (A++ [x]) A.length=x:=by unfold ma;simp
def jL (A:List Mb)(k:Int)(p:ByteArray) :Option Nat:=A.findIdx? fun x=>decide (x.e.k=k/\x.e.p=p)
theorem nK {A:List Mb}{k:Int}{p:ByteArray} :jL A k p=none↔∀i,i<A.length->¬((ma A i).e.k=k/\ (ma A i).e.p=p) :=by
 unfold jL;rw[List.findIdx?_eq_none_iff];constructor
 ·intro h i hi;have:=h (ma A i) (by rw[js hi];exact List.getElem_mem hi)
  simpa using this
 ·intro h x hx;obtain⟨i,hi,rfl⟩:=List.getElem_of_mem hx;have:=h i hi;rw[js hi]at this
  simpa using this
theorem eP {A:List Mb}{k:Int}{p:ByteArray}{r:Nat} :jL A k p=some r↔r<A.length/\ (ma A r).e.k=k/\ (ma A r).e.p=p/\∀i,i<r->¬((ma A i).e.k=k/\ (ma A i).e.p=p) :=by
 unfold jL;rw[List.findIdx?_eq_some_iff_getElem];constructor
 ·rintro⟨h,h1,h2⟩;have h1:A[r].e.k=k/\A[r].e.p=p:=of_decide_eq_true h1;refine⟨h,by rw[js h];exact h1.1,by rw[js h];exact h1.2,fun i hi=>?_⟩;have:=h2 i hi;rw[js (by omega)]
  simpa using this
 ·rintro⟨h,h1,h2,h3⟩;rw[js h]at h1 h2;refine⟨h,decide_eq_true ⟨h1,h2⟩,fun i hi=>?_⟩;have:=h3 i hi;rw[js (by omega)]at this
  simpa using this
def lu (A:List Mb)(p:ByteArray) :Prop:=0<A.length/\0<=aP (af (ma A (A.length- 1)).e.p) (af p)
def lB (A:List Mb)(p:ByteArray) :Prop:=bh (af p)≠ []/\jL A 0 (strOfNums (bh (af p))) =none
def mh (A:List Mb)(e:dY) :Prop:=e.k=3/\∀r,jL A 1 e.t=some r-> (ma A r).e.m≠e.m
open Classical in
noncomputable def iu (A:List Mb)(e:dY) :Int:=if dn e≠0 then dn e else if lu A e.p then 12 else if lB A e.p then 13 else if mh A e then 15 else 0
open Classical in
noncomputable def As (A:List Mb)(x:Mb) :Int:=if iu A x.e≠0 then iu A x.e else if(x.d.length:Int)≠x.e.s then 2 else 0
theorem fc {A:List Mb}{e:dY} :iu A e=0↔dn e=0/\¬lu A e.p/\¬lB A e.p/\¬mh A e:=by
 unfold iu;by_cases h0:dn e=0
 ·by_cases h1:lu A e.p
  ·simp[h0,h1]
  ·by_cases h2:lB A e.p
   ·simp[h0,h1,h2]
   ·by_cases h3:mh A e<;>simp[h0,h1,h2,h3]
 ·simp[h0]
theorem fU {A:List Mb}{x:Mb} :As A x=0↔iu A x.e=0/\ (x.d.length:Int) =x.e.s:=by
 unfold As;by_cases h0:iu A x.e=0
 ·by_cases h1: (x.d.length:Int) =x.e.s<;>simp[h0,h1]
 ·simp[h0]
def Gd (A:List Mb) :Prop:=∀i,i<A.length->As (A.take i) (ma A i) =0
theorem uA:Gd [] :=fun i h=>absurd h (Nat.not_lt_zero i)
theorem mO {A:List Mb}(h:Gd A){x:Mb}(hx:As A x=0) :Gd (A++ [x]) :=fun i hi=>by
 rw[List.length_append,List.length_singleton]at hi;by_cases e:i<A.length
 ·rw[ju _ e,List.take_append_of_le_length (by omega)];exact h i e
 ·obtain rfl:i=A.length:=by omega
  rw[nI,List.take_left];exact hx
theorem Gd.at_ {A:List Mb}(h:Gd A){i:Nat}(hi:i<A.length) :dn (ma A i).e=0/\ ((ma A i).d.length:Int) = (ma A i).e.s/\¬lu (A.take i) (ma A i).e.p/\¬lB (A.take i) (ma A i).e.p/\¬mh (A.take i) (ma A i).e:=by
 obtain⟨h1,h2⟩:=fU.mp (h i hi);obtain⟨h3,h4,h5,h6⟩:=fc.mp h1;exact⟨h3,h2,h4,h5,h6⟩
theorem Gd.next {A:List Mb}(h:Gd A){i:Nat}(hi:i+1<A.length) :aP (af (ma A i).e.p) (af (ma A (i+1)).e.p) = -1:=by
 have h1:= (h.at_ hi).2.2.1;have hl: (A.take (i+1)).length=i+1:=by rw[List.length_take];omega
 unfold lu at h1;rw[hl,Nat.add_sub_cancel,fM (Nat.lt_succ_self i)]at h1;have h2:¬0<=aP (af (ma A i).e.p) (af (ma A (i+1)).e.p) :=fun e=>h1 ⟨Nat.succ_pos i,e⟩;rcases gD (af (ma A i).e.p) (af (ma A (i+1)).e.p)with e|e|e<;>omega
theorem Gd.lt {A:List Mb}(h:Gd A){i:Nat} :∀{j:Nat},i<j->j<A.length->aP (af (ma A i).e.p) (af (ma A j).e.p) = -1
 |0,hij,_=>absurd hij (Nat.not_lt_zero i)
 |j+1,hij,hj=>by
  by_cases e:i=j
  ·subst e;exact h.next hj
  ·have h1:=h.lt (show i<j by omega) (by omega);have h2:=h.next hj;have h3:=cY _ _ _ (show aP (af (ma A i).e.p) (af (ma A j).e.p)<=0 by omega) (show aP (af (ma A j).e.p) (af (ma A (j+1)).e.p)<=0 by omega);rcases gD (af (ma A i).e.p) (af (ma A (j+1)).e.p)with e'|e'|e'
   ·exact e'
   ·have e2:= (cmp_eq _ _).mp e';rw[e2,fQ,h2]at h1;omega
   ·omega
theorem Gd.inj {A:List Mb}(h:Gd A){i j:Nat}(hi:i<A.length)(hj:j<A.length)(e: (ma A i).e.p= (ma A j).e.p) :i=j:=by
 rcases Nat.lt_trichotomy i j with l|l|l
 ·have:=h.lt l hj;rw[e,(cmp_eq _ _).mpr rfl]at this;omega
 ·exact l
 ·have:=h.lt l hi;rw[e,(cmp_eq _ _).mpr rfl]at this;omega
theorem Gd.par {A:List Mb}(h:Gd A){i:Nat}(hi:i<A.length) :bh (af (ma A i).e.p) = []\/∃j,j<i/\ (ma A j).e.k=0/\ (ma A j).e.p=strOfNums (bh (af (ma A i).e.p)) :=by
 have h1:= (h.at_ hi).2.2.2.1;by_cases e:bh (af (ma A i).e.p) = []
 ·exact .inl e
 cases hf:jL (A.take i) 0 (strOfNums (bh (af (ma A i).e.p)))with
 |none=>exact absurd ⟨e,hf⟩ h1
 |some r=>
  obtain⟨r1,r2,r3,_⟩:=eP.mp hf;rw[List.length_take]at r1;rw[fM (by omega)]at r2 r3;exact .inr ⟨r,by omega,r2,r3⟩
theorem Gd.file {A:List Mb}(h:Gd A){i:Nat}(hi:i<A.length)(hk: (ma A i).e.k=3) :∃r,r<i/\ (ma A r).e.k=1/\ (ma A r).e.p= (ma A i).e.t/\ (ma A r).e.m= (ma A i).e.m/\jL A 1 (ma A i).e.t=some r:=by
 have h1:= (h.at_ hi).2.2.2.2
 have h2:∃r,jL (A.take i) 1 (ma A i).e.t=some r/\ (ma (A.take i) r).e.m= (ma A i).e.m:=by
  refine Classical.byContradiction fun hn=>h1 ⟨hk,fun r hr hm=>hn ⟨r,hr,hm⟩⟩
 obtain⟨r,hr,hm⟩:=h2;obtain⟨r1,r2,r3,r4⟩:=eP.mp hr;rw[List.length_take]at r1;have hri:r<i:=by omega
 rw[fM hri]at r2 r3 hm;refine⟨r,hri,r2,r3,hm,eP.mpr ⟨by omega,r2,r3,fun j hj hm'=>?_⟩⟩;exact r4 j hj (by rw[fM (by omega)];exact hm')
def dQ (A:List Mb)(i:Nat) :Nd:=
 if(ma A i).e.k=3 then
  match jL A 1 (ma A i).e.t with
  |some r=>⟨1,(ma A i).e.p,(ma A i).e.m,emp,(ma A r).d,(r:Int) +1⟩
  |none=>Qy
 else⟨(ma A i).e.k,(ma A i).e.p,(ma A i).e.m,(ma A i).e.t,(ma A i).d,if(ma A i).e.k=1 then(i:Int) +1 else 0⟩
def aV (A:List Mb) :List Nd:= (List.range A.length).map (dQ A)
theorem dJ (A:List Mb) : (aV A).length=A.length:=by unfold aV;rw[List.length_map,List.length_range]
theorem fg {A:List Mb}{i:Nat}(h:i<A.length) :nd (aV A) i=dQ A i:=by
 unfold nd aV;rw[List.getElem?_map,List.getElem?_range h];rfl
def QI (A:List Mb)(i r:Nat) :Prop:=r<=i/\ (ma A r).e.k=1/\ (ma A r).e.m= (ma A i).e.m/\dQ A i=⟨1,(ma A i).e.p,(ma A i).e.m,emp,(ma A r).d,(r:Int) +1⟩/\ ((ma A i).e.k=1->r=i)/\ ((ma A i).e.k=3->r<i/\ (ma A r).e.p= (ma A i).e.t)
theorem Gd.kinds {A:List Mb}(h:Gd A){i:Nat}(hi:i<A.length) : (∃r,QI A i r)\/ ((ma A i).e.k=0\/ (ma A i).e.k=2)/\ (ma A i).d= []/\ (ma A i).e.s=0/\dQ A i=⟨(ma A i).e.k,(ma A i).e.p,(ma A i).e.m,(ma A i).e.t,[],0⟩:=by
 obtain⟨hck,hds,_,_,_⟩:=h.at_ hi;have hok:=dB.mp hck;have k0:=hok.k0;have k4:=hok.k4;by_cases h3: (ma A i).e.k=3
 ·obtain⟨r,r1,r2,r3,r4,r5⟩:=h.file hi h3;refine .inl ⟨r,by omega,r2,r4,?_,fun h1=>absurd (h3.symm.trans h1) (by decide),fun _=>⟨r1,r3⟩⟩;unfold dQ;rw[if_pos h3,r5]
 ·by_cases h1: (ma A i).e.k=1
  ·refine .inl ⟨i,ah,h1,rfl,?_,fun _=>rfl,fun h=>absurd h h3⟩
   have ht: (ma A i).e.t=emp:=by
    rcases(kJ hok.tg).2.1 with⟨_,_,e⟩|⟨e,_⟩
    ·exact e
    ·omega
   unfold dQ;rw[if_neg h3,if_pos h1,h1,ht]
  ·obtain⟨s0,_,s1⟩:=gV hok.sz;have hs:=s1 h1;have hd: (ma A i).d= [] :=List.length_eq_zero_iff.mp (by omega);refine .inr ⟨by omega,hd,hs,?_⟩;unfold dQ;rw[if_neg h3,if_neg h1,hd]
theorem Gd.path {A:List Mb}(h:Gd A){i:Nat}(hi:i<A.length) : (dQ A i).p= (ma A i).e.p:=by
 rcases h.kinds hi with⟨r,_,_,_,e,_⟩|⟨_,_,_,e⟩<;>rw[e]
theorem Gd.fw {A:List Mb}(h:Gd A) :sC (aV A) :=by
 unfold sC;rw[List.pairwise_iff_getElem];intro i j hi hj hij;rw[dJ]at hi hj;rw[<- cw,<- cw,fg hi,fg hj];unfold Le key;rw[h.path hi,h.path hj,h.lt hij hj];decide
theorem Gd.val {A:List Mb}(h:Gd A) :Aw (aV A) :=by
 have mem:∀{x},x∈aV A->∃i,i<A.length/\x=dQ A i:=fun{x} hx=>by
  unfold aV at hx;obtain⟨i,hi,rfl⟩:=List.mem_map.mp hx;exact⟨i,List.mem_range.mp hi,rfl⟩
 refine⟨fun x hx=>?_,?_,fun x hx=>?_,fun x hx y hy h0 e=>?_⟩
 ·obtain⟨i,hi,rfl⟩:=mem hx;obtain⟨hck,hds,_,_,_⟩:=h.at_ hi;have hok:=dB.mp hck;rcases h.kinds hi with⟨r,r0,r1,r2,e,r3,r4⟩|⟨hk,hd,hs,e⟩
  ·obtain⟨hck',hds',_,_,_⟩:=h.at_ (show r<A.length by omega);have hok':=dB.mp hck'
   have hz:pX 1 ((ma A r).d.length:Int) =0:=by
    have:=hok'.sz;rw[r1]at this;rw[hds'];exact this
   have hc:dn (iD (dQ A i)) =0:=by
    rw[e];refine dB.mpr ⟨by show(0:Int)<=1;decide,by show(1:Int) <4;decide,hok.path,hok.m0,hok.m1,fun h=>absurd h (by show¬(1:Int) =2;decide),rfl,?_⟩;unfold iD;exact hz
   unfold eT;rw[e]at hc⊢;rw[if_neg (by show¬((1:Int) <0\/2< (1:Int));decide),if_neg (by simpa using hc),if_neg (fun h=>h.1 rfl),if_neg];rintro(h|h)
   ·have h: (r:Int) +1<0:=h;omega
   ·exact h.1 rfl
  ·have hc:dn (iD (dQ A i)) =0:=by
    rw[e]
    have e2:iD (⟨(ma A i).e.k,(ma A i).e.p,(ma A i).e.m,(ma A i).e.t,[],0⟩:Nd) = (ma A i).e:=by
     unfold iD;dsimp only;rw[if_neg (by omega),<- hs]
    rw[e2];exact hck
   unfold eT;rw[e]at hc⊢;dsimp only;rw[if_neg (by omega),if_neg (by simpa using hc),if_neg (fun h=>h.2 rfl),if_neg];rintro(h|h)
   ·exact absurd h (by decide)
   ·exact h.2 rfl
 ·unfold LF;rw[List.pairwise_iff_getElem];intro i j hi hj hij e;rw[dJ]at hi hj;rw[<- cw,<- cw,fg hi,fg hj,h.path hi,h.path hj]at e;have:=h.inj hi hj e;omega
 ·obtain⟨i,hi,rfl⟩:=mem hx;unfold CD key;rw[h.path hi];rcases h.par hi with e|⟨j,hj,hk,e⟩
  ·exact .inl e
  ·refine .inr ⟨dQ A j,?_,?_,?_⟩
   ·unfold aV;exact List.mem_map.mpr ⟨j,List.mem_range.mpr (by omega),rfl⟩
   ·rcases h.kinds (show j<A.length by omega)with⟨r,r0,r1,r2,e',r3,r4⟩|⟨_,_,_,e'⟩
    ·exfalso;have hok:=dB.mp (h.at_ (show j<A.length by omega)).1
     have:dQ A j=⟨0,(ma A j).e.p,(ma A j).e.m,(ma A j).e.t,(ma A j).d,0⟩:=by
      unfold dQ;rw[if_neg (by omega),if_neg (by omega),hk]
     rw[e']at this;have:=congrArg Nd.k this;exact absurd this (by show¬(1:Int) =0;decide)
    ·rw[e'];exact hk
   ·rw[h.path (by omega),e];exact av (tc _)
 ·obtain⟨i,hi,rfl⟩:=mem hx;obtain⟨j,hj,rfl⟩:=mem hy;rcases h.kinds hi with⟨r,_,_,r2,e1,_⟩|⟨_,_,_,e1⟩
  ·rcases h.kinds hj with⟨q,_,_,q2,e2,_⟩|⟨_,_,_,e2⟩
   ·rw[e1,e2]at e;rw[e1,e2];have e: (r:Int) +1= (q:Int) +1:=e;obtain rfl:r=q:=by omega
    exact⟨r2.symm.trans q2,rfl⟩
   ·rw[e1,e2]at e;have e: (r:Int) +1=0:=e;omega
  ·rw[e1]at h0;exact absurd rfl h0
theorem Hg {l:List Nd}(_hv:Aw l)(hs:sC l){i:Nat}(hi:i<l.length) :mb (canon l) i=mb l i:=by
 have e:fw l=l:=yV hs;have cn:canon l=l.map (mu l) :=by unfold canon;rw[e]
 have hl: (canon l).length=l.length:=eZ l
 have at_:∀j,j<l.length->nd (canon l) j=mu l (nd l j) :=fun j hj=>by
  rw[cw (by omega),cw hj];simp only[cn,List.getElem_map]
 have cc:∀j,j<l.length-> (nd (canon l) j).c=num (cs l) (nd l j).c:=fun j hj=>by rw[at_ j hj];rfl
 have many:∀r,r<i->0< (nd l r).c-> (nd l r).c= (nd l i).c->dy (cs l) (nd l r).c:=fun r hr h0 h1=>by
  refine⟨h0,?_⟩
  have h2:0< ((cs l).take i).count (nd l r).c:=List.count_pos_iff.mpr (List.mem_take_iff_getElem.mpr ⟨r,by unfold cs;rw[List.length_map];omega,by
   have:=gY (show r<l.length by omega);rw[List.getElem?_eq_getElem (by unfold cs;rw[List.length_map];omega)]at this;exact Option.some.inj this⟩)
  have h3:0< ((cs l).drop i).count (nd l r).c:=List.count_pos_iff.mpr (List.mem_iff_getElem?.mpr ⟨0,by rw[List.getElem?_drop,Nat.add_zero,gY hi,h1]⟩);have h4:cs l= (cs l).take i++ (cs l).drop i:= (List.take_append_drop i _).symm;rw[h4,List.count_append];omega
 have back:∀j,j<i->0< (nd (canon l) j).c-> (nd (canon l) j).c= (nd (canon l) i).c->0< (nd l j).c/\ (nd l j).c= (nd l i).c:=fun j hj h0 h1=>by
  rw[cc j (by omega)]at h0 h1;rw[cc i hi]at h1;have m1:=fP.mp h0;rw[h1]at h0;exact⟨m1.1,qo m1 (fP.mp h0) h1⟩
 cases h:fr l i (nd l i).c with
 |some y=>
  obtain⟨r,hr,rfl,h0,h1,hn⟩:=kP (Nat.le_of_lt hi) h;have hM:=many r hr h0 h1
  have hf:fr (canon l) i (nd (canon l) i).c=some (nd (canon l) r) :=by
   refine zL (by omega) hr (by rw[cc r (by omega)];exact fP.mpr hM) (by rw[cc r (by omega),cc i hi,h1]) ((fi (by omega)).mpr fun j hj hm=>?_);have:=back j (by omega) hm.1 hm.2;exact(fi (by omega)).mp hn j hj this
  rw[dU hf,dU h,at_ i hi,at_ r (by omega)];rfl
 |none=>
  have hf:fr (canon l) i (nd (canon l) i).c=none:= (fi (by omega)).mpr fun j hj hm=> (fi (by omega)).mp h j hj (back j hj hm.1 hm.2);rw[dV hf,dV h,at_ i hi];rfl
theorem Bk {l:List Nd}(hv:Aw l)(hs:sC l) :oE (canon l) =oE l:=by
 refine List.ext_getElem? fun i=>?_;by_cases hi:i<l.length
 ·rw[gp (by rw[eZ];exact hi),gp hi,Hg hv hs hi]
 ·rw[List.getElem?_eq_none (by rw[dv,eZ];omega),List.getElem?_eq_none (by rw[dv];omega)]
theorem Gd.oE {A:List Mb}(h:Gd A) :oE (aV A) =A:=by
 refine List.ext_getElem? fun i=>?_;by_cases hi:i<A.length
 ·have hl:i< (aV A).length:=by rw[dJ];exact hi
  rw[gp hl,List.getElem?_eq_getElem hi,<- js hi]
  congr 1
  have cl:∀j,j<A.length-> (nd (aV A) j).c= (dQ A j).c:=fun j hj=>by rw[fg hj]
  rcases h.kinds hi with⟨r,r0,r1,r2,e,r3,r4⟩|⟨hk,hd,hs,e⟩
  ·
   obtain⟨hck,hds,_,_,_⟩:=h.at_ hi;have hok:=dB.mp hck;have ei: (nd (aV A) i).c= (r:Int) +1:=by rw[cl i hi,e]
   by_cases h3: (ma A i).e.k=3
   ·obtain⟨r5,r6⟩:=r4 h3
    have er: (nd (aV A) r).c= (r:Int) +1:=by
     rw[cl r (by omega)];rcases h.kinds (show r<A.length by omega)with⟨q,_,_,_,e',q3,_⟩|⟨hk',_,_,_⟩
     ·rw[e',q3 r1]
     ·omega
    have hf:fr (aV A) i (nd (aV A) i).c=some (nd (aV A) r) :=by
     refine zL (by omega) r5 (by omega) (by rw[er,ei]) ((fi (by rw[dJ];omega)).mpr fun j hj hm=>?_);rcases h.kinds (show j<A.length by omega)with⟨q,q0,_,_,e',_,_⟩|⟨_,_,_,e'⟩
     ·have: (nd (aV A) j).c= (q:Int) +1:=by rw[cl j (by omega),e']
      omega
     ·have: (nd (aV A) j).c=0:=by rw[cl j (by omega),e']
      omega
    rw[dU hf,fg (show r<A.length by omega),h.path (by omega),r6,fg hi,e];obtain⟨_,_,s1⟩:=gV hok.sz;have hs:=s1 (by omega);have hd: (ma A i).d= [] :=List.length_eq_zero_iff.mp (by omega);generalize ma A i=x at*;obtain⟨⟨k,p,m,t,s⟩,d⟩:=x;dsimp only at*;subst h3;subst hs;subst hd;rfl
   ·have h1: (ma A i).e.k=1:=by
     have:=hok.k0;have:=hok.k4;rcases Classical.em ((ma A i).e.k=1)with h|h
     ·exact h
     ·have e2:dQ A i=⟨(ma A i).e.k,(ma A i).e.p,(ma A i).e.m,(ma A i).e.t,(ma A i).d,0⟩:=by
       unfold dQ;rw[if_neg h3,if_neg h]
      rw[e]at e2;exact absurd (congrArg Nd.k e2).symm h
    obtain rfl:=r3 h1
    have hf:fr (aV A) r (nd (aV A) r).c=none:= (fi (by omega)).mpr fun j hj hm=>by
     rcases h.kinds (show j<A.length by omega)with⟨q,q0,_,_,e',_,_⟩|⟨_,_,_,e'⟩
     ·have: (nd (aV A) j).c= (q:Int) +1:=by rw[cl j (by omega),e']
      omega
     ·have: (nd (aV A) j).c=0:=by rw[cl j (by omega),e']
      omega
    rw[dV hf,fg hi,e]
    have ht: (ma A r).e.t=emp:=by
     rcases(kJ hok.tg).2.1 with⟨_,_,e⟩|⟨e,_⟩
     ·exact e
     ·omega
    generalize ma A r=x at*;obtain⟨⟨k,p,m,t,s⟩,d⟩:=x;dsimp only at*;subst h1;subst ht;unfold Fb iD;dsimp only;rw[if_pos rfl,hds]
  ·have hf:fr (aV A) i (nd (aV A) i).c=none:= (fi (by omega)).mpr fun j hj hm=>by
    have: (nd (aV A) i).c=0:=by rw[cl i hi,e]
    omega
   rw[dV hf,fg hi,e];generalize ma A i=x at*;obtain⟨⟨k,p,m,t,s⟩,d⟩:=x;dsimp only at*;subst hs;subst hd;unfold Fb iD;dsimp only;rw[if_neg (by omega)]
 ·rw[List.getElem?_eq_none (by rw[dv,dJ];omega),List.getElem?_eq_none (by omega)]
theorem Gd.strict {A:List Mb}(h:Gd A) :Aw (canon (aV A))/\Flt.oE (canon (aV A)) =A/\dA (canon (aV A)) = ((A.length:Int),0) :=by
 have hv:=sV h.val;refine⟨hv,by rw[Bk h.val h.fw,h.oE],?_⟩;have:=zC hv
 rwa [eZ,dJ]at this
theorem vA {C:List Nd}(h:Flt.Can C) :Gd (Flt.oE C) :=by
 intro i hi;rw[dv]at hi;have am:∀j,j<C.length->ma (Flt.oE C) j=mb C j:=fun j hj=>Jl (gp hj);have ap:∀j,j<C.length-> (ma (Flt.oE C) j).e.p= (nd C j).p:=fun j hj=>by rw[am j hj];exact(sI C j).1
 have hl: ((Flt.oE C).take i).length=i:=by rw[List.length_take,dv];omega
 refine fU.mpr ⟨fc.mpr ⟨by rw[am i hi];exact h.ck hi,?_,?_,?_⟩,?_⟩
 ·rintro⟨h0,h1⟩;rw[hl]at h0 h1;rw[fM (by omega),ap _ (by omega),ap i hi]at h1;have:=h.lt (show i- 1<i by omega) hi;unfold key at this;omega
 ·rintro⟨h0,h1⟩;rw[ap i hi]at h0 h1;rcases h.par hi with e|⟨j,hj,hk,e⟩
  ·exact h0 e
  ·have hn:=nK.mp h1 j (by omega);rw[fM hj,am j (by omega)]at hn
   have hf:fr C j (nd C j).c=none:=by
    cases hfr:fr C j (nd C j).c with
    |none=>rfl
    |some y=>
     obtain⟨_,_,_,_,k1,_⟩:=h.OG (show j<C.length by omega) hfr;omega
   refine hn ⟨?_,?_⟩
   ·rw[dV hf];exact hk
   ·rw[(sI C j).1];exact ui.mp e
 ·rintro⟨h0,h1⟩;rw[am i hi]at h0 h1;obtain⟨y,hy⟩:= (h.k3 hi).mp h0;obtain⟨r,hr,hrn,k1,_,hn,hm,_,_,_⟩:=h.OG hi hy;have ht: (mb C i).e.t= (nd C r).p:=by rw[dU hy,hrn];rfl
  have hf:jL ((Flt.oE C).take i) 1 (mb C i).e.t=some r:=by
   refine eP.mpr ⟨by omega,?_,?_,fun j hj hm'=>?_⟩
   ·rw[fM hr,am r (by omega),dV hn];exact k1
   ·rw[fM hr,ap r (by omega),ht]
   ·rw[fM (by omega),ap j (by omega),ht]at hm';have:=h.at_ (show j<C.length by omega) (show r<C.length by omega) hm'.2;omega
  refine h1 r hf ?_;rw[fM hr,am r (by omega),(sI C r).2,(sI C i).2];exact hm
 ·rw[am i hi]
  cases hfr:fr C i (nd C i).c with
  |some y=>rw[dU hfr];rfl
  |none=>
   rw[dV hfr];have o:=nw (h.v.one _ (cK hi));show((nd C i).d.length:Int) =if(nd C i).k=1 then((nd C i).d.length:Int)else 0;by_cases hk: (nd C i).k=1
   ·rw[if_pos hk]
   ·rw[if_neg hk,o.2.2.1 hk];rfl
theorem DO {C:List Nd}(h:Flt.Can C) :canon (aV (Flt.oE C)) =C:=
 JF (oj (vA h).val) h (vA h).strict.2.1
end Go.Proofs.YtcjagakckffkiaaGreatDoor.Reb
