import Derived.Test.YtcjagakckffkiaaGreatDoorS4
set_option maxHeartbeats 16000000
set_option maxRecDepth 100000
namespace Go.Proofs.YtcjagakckffkiaaGreatDoor
namespace Tre
open Go.RowKit Pnm
structure Nd where
 k:Int
 p:ByteArray
 m:Int
 t:ByteArray
 d:List Int
 c:Int
def key (x:Nd) :List Int:=ad x.p
def Le (x y:Nd) :Prop:=aR (key x) (key y)<=0
theorem Le.trans {x y z:Nd}(h:Le x y)(h':Le y z) :Le x z:=cm _ _ _ h h'
theorem oF {x y:Nd}(h:¬Le x y) :Le y x:=by
 unfold Le at*;rw[fe];rcases fq (key x) (key y)with e|e|e<;>rw[e]at h⊢<;>omega
theorem Le.Fk {x y:Nd}(h:Le x y)(h':Le y x) :x.p=y.p:=by
 unfold Le at*;rw[fe]at h';exact bQ ((cmp_eq (key x) (key y)).mp (by rcases fq (key x) (key y)with e|e|e<;>rw[e]at h h'⊢<;>omega))
theorem le_of_eq {x y:Nd}(h:x.p=y.p) :Le x y:=by
 unfold Le;rw[(cmp_eq _ _).mpr (show key x=key y by unfold key;rw[h])];exact Int.le_refl 0
def bk (l:List Nd)(x:Nd) :Nat->Nat
 |0=>0
 |k+1=>match l[k]? with
  |some y=>if 0<aR (key y) (key x)then bk l x k else k+1
  |none=>bk l x k
theorem Cf (l:List Nd)(x:Nd) :∀n,bk l x n<=n
 |0=>Nat.le_refl 0
 |n+1=>by
  have ih:=Cf l x n;unfold bk
  split
  ·split<;>omega
  ·omega
theorem so (l:List Nd)(x:Nd) :∀n (_:n<=l.length),(∀j (_:j<n) (h:j<l.length),bk l x n<=j->¬Le l[j] x)/\∀(_:0<bk l x n) (h:bk l x n- 1<l.length),Le l[bk l x n- 1] x
 |0,_=>⟨fun j h=>absurd h (Nat.not_lt_zero j),fun h=>absurd h (Nat.lt_irrefl 0)⟩
 |n+1,hn=>by
  have ih:=so l x n (by omega)
  have e:bk l x (n+1) =if 0<aR (key (l[n]'(by omega))) (key x)then bk l x n else n+1:=by
   rw[bk,List.getElem?_eq_getElem (show n<l.length by omega)]
  by_cases c:0<aR (key (l[n]'(by omega))) (key x)
  ·rw[if_pos c]at e;rw[e];refine⟨fun j hj h hb=>?_,ih.2⟩;by_cases h':j<n
   ·exact ih.1 j h' h hb
   ·obtain rfl:j=n:=by omega
    unfold Le;omega
  ·rw[if_neg c]at e;rw[e];refine⟨fun j hj h hb=>by omega,fun _ h=>?_⟩;unfold Le;exact Int.not_lt.mp c
def ju (l:List Nd)(x:Nd) :List Nd:=l.take (bk l x l.length) ++x::l.drop (bk l x l.length)
theorem xD (l:List Nd)(x:Nd) : (ju l x).Perm (x::l) :=by
 unfold ju;exact List.perm_middle.trans (by rw[List.take_append_drop])
def pj (l:List Nd) :Prop:=l.Pairwise Le
theorem rm {l:List Nd}{n:Nat}(hs:pj l){y x:Nd}(hy:y∈l.take n)(h:0<n->∀(h:n- 1<l.length),Le l[n- 1] x)(hn:n<=l.length) :Le y x:=by
 obtain⟨i,hi,rfl⟩:=List.getElem_of_mem hy;rw[List.length_take]at hi;rw[List.getElem_take];by_cases e:i=n- 1
 ·subst e;exact h (by omega) (by omega)
 ·exact Le.trans ((List.pairwise_iff_getElem.mp hs) i (n- 1) (by omega) (by omega) (by omega)) (h (by omega) (by omega))
theorem ie {l:List Nd}{x y:Nd}(hy:y∈l.drop (bk l x l.length)) :¬Le y x:=by
 obtain⟨i,hi,rfl⟩:=List.getElem_of_mem hy;rw[List.length_drop]at hi;rw[List.getElem_drop];exact(so l x l.length aj).1 _ (by omega) (by omega) (by omega)
theorem kU {l:List Nd}(hs:pj l){x y:Nd}(hy:y∈l.take (bk l x l.length)) :Le y x:=
 rm hs hy (fun h0 h=> (so l x l.length aj).2 h0 h) (Cf _ _ _)
theorem Ay {l:List Nd}(hs:pj l)(x:Nd) :pj (ju l x) :=by
 unfold ju pj;rw[List.pairwise_append];refine⟨hs.sublist (List.take_sublist _ _),List.pairwise_cons.mpr ⟨fun y hy=>oF (ie hy),hs.sublist (List.drop_sublist _ _)⟩,fun a ha b hb=>?_⟩;rcases List.mem_cons.mp hb with rfl|hb
 ·exact kU hs ha
 ·exact(kU hs ha).trans (oF (ie hb))
def at_ (q:ByteArray)(l:List Nd) :List Nd:=l.filter fun x=>decide (x.p=q)
theorem De {l:List Nd}(x:Nd)(q:ByteArray) :at_ q (ju l x) =at_ q (l++ [x]) :=by
 unfold ju at_;rw[List.filter_append,List.filter_append];by_cases h:x.p=q
 ·have e: (l.drop (bk l x l.length)).filter (fun y=>decide (y.p=q)) = [] :=by
   rw[List.filter_eq_nil_iff];intro y hy;have:=ie hy;intro e;exact this (le_of_eq ((of_decide_eq_true e).trans h.symm))
  rw[List.filter_cons,if_pos (decide_eq_true h),e,List.filter_cons,if_pos (decide_eq_true h),List.filter_nil]
  congr 1
  conv=>rhs;rw[<- List.take_append_drop (bk l x l.length) l,List.filter_append,e,List.append_nil]
 ·rw[List.filter_cons,if_neg (by rw[decide_eq_true_iff];exact h),List.filter_cons,if_neg (by rw[decide_eq_true_iff];exact h),List.filter_nil,List.append_nil,<- List.filter_append,List.take_append_drop]
theorem xC {l:List Nd}{x:Nd}(h:∀y∈l,Le y x) :ju l x=l++ [x] :=by
 have e:bk l x l.length=l.length:=by
  cases hl:l.length with
  |zero=>rfl
  |succ n=>
   rw[bk,List.getElem?_eq_getElem (show n<l.length by omega)];have:=h l[n] (List.getElem_mem _);unfold Le at this;show(if 0<aR (key l[n]) (key x)then _ else _) =_;rw[if_neg (by omega)]
 unfold ju;rw[e,List.take_of_length_le aj,List.drop_of_length_le aj]
def tf (acc l:List Nd) :List Nd:=l.foldl ju acc
def eD (l:List Nd) :List Nd:=tf [] l
theorem oV:∀(l acc:List Nd),(tf acc l).Perm (acc++l)
 | [],acc=>by rw[List.append_nil];exact List.Perm.refl _
 |x::l,acc=>by
  refine(oV l (ju acc x)).trans (((xD acc x).append_right l).trans ?_);exact(List.perm_middle (l₁:=acc) (a:=x) (l₂:=l)).symm
theorem jR (l:List Nd) : (eD l).Perm l:=oV l []
theorem rT:∀(l:List Nd) {acc:List Nd} (_:pj acc),pj (tf acc l)
 | [],_,h=>h
 |x::l,_,h=>rT l (Ay h x)
theorem uJ (l:List Nd) :pj (eD l) :=rT l List.Pairwise.nil
theorem uG:∀(l acc:List Nd) (q:ByteArray),at_ q (tf acc l) =at_ q (acc++l)
 | [],acc,q=>by rw[List.append_nil];rfl
 |x::l,acc,q=>by
  refine(uG l (ju acc x) q).trans ?_;have h:=De (l:=acc) x q;unfold at_ at*;rw[List.filter_append,h,<- List.filter_append,List.append_assoc];rfl
theorem Dw (l:List Nd)(q:ByteArray) :at_ q (eD l) =at_ q l:=uG l [] q
theorem uH:∀(l acc:List Nd),pj (acc++l)->tf acc l=acc++l
 | [],acc,_=>by rw[List.append_nil];rfl
 |x::l,acc,h=>by
  have h':=h;unfold pj at h';rw[List.pairwise_append]at h';show tf (ju acc x) l=_;rw[xC fun y hy=>h'.2.2 y hy x (List.mem_cons_self ..)];rw[uH l (acc++ [x]) (by rw[List.append_assoc];exact h),List.append_assoc];rfl
theorem yT {l:List Nd}(h:pj l) :eD l=l:=uH l [] h
theorem Bz (l:List Nd) : (eD l).length=l.length:= (jR l).length_eq
theorem uI (l:List Nd)(x:Nd) :x∈eD l↔x∈l:= (jR l).mem_iff
theorem rU:∀{a b:List Nd},pj a->pj b-> (∀q,at_ q a=at_ q b)->a=b
 | [],[],_,_,_=>rfl
 | [],y::b,_,_,h=>by
  have:=h y.p;unfold at_ at this;rw[List.filter_nil,List.filter_cons,if_pos (decide_eq_true rfl)]at this;cases this
 |x::a,[],_,_,h=>by
  have:=h x.p;unfold at_ at this;rw[List.filter_nil,List.filter_cons,if_pos (decide_eq_true rfl)]at this;cases this
 |x::a,y::b,ha,hb,h=>by
  have in1:y∈x::a:=by
   have:y∈at_ y.p (x::a) :=by rw[h];exact List.mem_filter.mpr ⟨List.mem_cons_self ..,decide_eq_true rfl⟩
   exact(List.mem_filter.mp this).1
  have in2:x∈y::b:=by
   have:x∈at_ x.p (y::b) :=by rw[<- h];exact List.mem_filter.mpr ⟨List.mem_cons_self ..,decide_eq_true rfl⟩
   exact(List.mem_filter.mp this).1
  have l1:Le x y:=by
   rcases List.mem_cons.mp in1 with e|e
   ·rw[e];exact le_of_eq rfl
   ·exact(List.pairwise_cons.mp ha).1 y e
  have l2:Le y x:=by
   rcases List.mem_cons.mp in2 with e|e
   ·rw[e];exact le_of_eq rfl
   ·exact(List.pairwise_cons.mp hb).1 x e
  have e:x.p=y.p:=l1.Fk l2
  have e':x=y:=by
   have:=h x.p;unfold at_ at this;rw[List.filter_cons,if_pos (decide_eq_true rfl),List.filter_cons,if_pos (decide_eq_true e.symm)]at this;exact(List.cons.inj this).1
  subst e'
  rw[rU (List.pairwise_cons.mp ha).2 (List.pairwise_cons.mp hb).2 fun q=>by
   have:=h q;unfold at_ at this⊢;rw[List.filter_cons,List.filter_cons]at this
   split at this
   ·exact(List.cons.inj this).2
   ·exact this]
theorem Dx {a l:List Nd}(h:pj a)(h':∀q,at_ q a=at_ q l) :a=eD l:=rU h (uJ l) fun q=> (h' q).trans (Dw l q).symm
def Cb (l:List Nd) :Prop:=l.Pairwise fun x y=>x.p≠y.p
theorem Cb.perm {a b:List Nd}(h:Cb a)(hp:a.Perm b) :Cb b:= (hp.pairwise_iff fun h e=>h e.symm).mp h
end Tre
namespace Tre
def dd (s:List Int) :List Int->List Int
 | [] =>s
 |c::t=>dd (if c∈s then s else s++ [c]) t
theorem tR (c:Int) :∀(t s:List Int),dd s (t++ [c]) =if c∈dd s t then dd s t else dd s t++ [c]
 | [],_=>rfl
 |_::t,_=>tR c t _
theorem su (x:Int) :∀(t s:List Int),x∈dd s t↔x∈s\/x∈t
 | [],s=>by simp[dd]
 |c::t,s=>by
  rw[dd,su x t];by_cases h:c∈s
  ·rw[if_pos h,List.mem_cons];constructor
   ·rintro(h|h)
    ·exact .inl h
    ·exact .inr (.inr h)
   ·rintro(h'|rfl|h')
    ·exact .inl h'
    ·exact .inl h
    ·exact .inr h'
  ·rw[if_neg h,List.mem_append,List.mem_singleton,List.mem_cons];exact⟨fun h=>h.elim (fun h=>h.elim .inl fun h=> .inr (.inl h)) fun h=> .inr (.inr h),fun h=>h.elim (fun h=> .inl (.inl h)) fun h=>h.elim (fun h=> .inl (.inr h)) .inr⟩
theorem xg {f:Int->Int} :∀(t s:List Int),(∀x y,x∈s\/x∈t->y∈s\/y∈t->f x=f y->x=y)->dd (s.map f) (t.map f) = (dd s t).map f
 | [],_,_=>rfl
 |c::t,s,h=>by
  have e: (if f c∈s.map f then s.map f else s.map f++ [f c]) = (if c∈s then s else s++ [c]).map f:=by
   by_cases hc:c∈s
   ·rw[if_pos hc,if_pos (List.mem_map_of_mem hc)]
   ·rw[if_neg hc,if_neg,List.map_append]
    ·rfl
    ·intro hm;obtain⟨a,ha,e⟩:=List.mem_map.mp hm;exact hc (h a c (.inl ha) (.inr (List.mem_cons_self ..)) e▸ha)
  rw[List.map_cons,dd,dd,e];refine xg t _ fun x y hx hy=>h x y ?_ ?_
  ·rcases hx with hx|hx
   ·split at hx
    ·exact .inl hx
    ·rcases List.mem_append.mp hx with hx|hx
     ·exact .inl hx
     ·exact .inr (List.mem_cons.mpr (.inl (List.mem_singleton.mp hx)))
   ·exact .inr (List.mem_cons_of_mem _ hx)
  ·rcases hy with hx|hx
   ·split at hx
    ·exact .inl hx
    ·rcases List.mem_append.mp hx with hx|hx
     ·exact .inl hx
     ·exact .inr (List.mem_cons.mpr (.inl (List.mem_singleton.mp hx)))
   ·exact .inr (List.mem_cons_of_mem _ hx)
theorem ug {f:Int->Int}{c:Int} :∀(s:List Int),(∀x,x∈s->f x=f c->x=c)-> (s.map f).idxOf (f c) =s.idxOf c
 | [],_=>rfl
 |a::s,h=>by
  rw[List.map_cons,List.idxOf_cons,List.idxOf_cons,ug s fun x hx=>h x (List.mem_cons_of_mem _ hx)];by_cases e:a=c
  ·subst e;simp
  ·have e':¬f a=f c:=fun h'=>e (h a (List.mem_cons_self ..) h');have b1: (a==c) =false:=by simpa using e
   have b2: (f a==f c) =false:=by simpa using e'
   rw[b1,b2]
theorem count_map {f:Int->Int}{c:Int} :∀(s:List Int),(∀x,x∈s->f x=f c->x=c)-> (s.map f).count (f c) =s.count c
 | [],_=>rfl
 |a::s,h=>by
  rw[List.map_cons,List.count_cons,List.count_cons,count_map s fun x hx=>h x (List.mem_cons_of_mem _ hx)];by_cases e:a=c
  ·subst e;simp
  ·have e':¬f a=f c:=fun h'=>e (h a (List.mem_cons_self ..) h');have b1: (a==c) =false:=by simpa using e
   have b2: (f a==f c) =false:=by simpa using e'
   rw[b1,b2]
def cR (l:List Int)(c:Int) :Prop:=0<c/\2<=l.count c
instance (l:List Int) (c:Int) :Decidable (cR l c) :=inferInstanceAs (Decidable (_/\_))
theorem cR.mem {l:List Int}{c:Int}(h:cR l c) :c∈l:=List.count_pos_iff.mp (by have:=h.2;omega)
def cls (l:List Int) :List Int:=dd [] (l.filter fun c=>decide (cR l c))
def num (l:List Int)(c:Int) :Int:=if cR l c then((cls l).idxOf c:Int) +1 else 0
theorem jl {l:List Int}{c:Int} :c∈cls l↔cR l c:=by
 unfold cls;rw[su,List.mem_filter,decide_eq_true_iff];exact⟨fun h=>h.elim (fun h=>by cases h) fun h=>h.2,fun h=> .inr ⟨h.mem,h⟩⟩
theorem iy {l:List Int}{c:Int} :0<num l c↔cR l c:=by
 unfold num
 split
 ·rename_i h;exact⟨fun _=>h,fun _=>by omega⟩
 ·rename_i h;exact⟨fun h=>absurd h (by decide),fun h'=>absurd h' h⟩
theorem num_nonneg (l:List Int)(c:Int) :0<=num l c:=by unfold num;split<;>omega
theorem pO {l:List Int}{a b:Int}(ha:cR l a)(hb:cR l b)(h:num l a=num l b) :a=b:=by
 unfold num at h;rw[if_pos ha,if_pos hb]at h;have e: (cls l).idxOf a= (cls l).idxOf b:=by omega
 have h1:=List.getElem_idxOf (List.idxOf_lt_length_iff.mpr (jl.mpr ha));have h2:=List.getElem_idxOf (List.idxOf_lt_length_iff.mpr (jl.mpr hb));rw[<- h1,<- h2]
 congr 1
theorem AS {l:List Int}{f:Int->Int}(hm:∀a∈l,(cR (l.map f) (f a)↔cR l a))(hi:∀a b,cR l a->cR l b->f a=f b->a=b){a:Int}(ha:a∈l) :num (l.map f) (f a) =num l a:=by
 have e:cls (l.map f) = (cls l).map f:=by
  unfold cls;rw[List.filter_map]
  have e':l.filter ((fun c=>decide (cR (l.map f) c))∘f) =l.filter fun c=>decide (cR l c) :=List.filter_congr fun x hx=>by
   show decide (cR (l.map f) (f x)) =decide (cR l x);exact decide_eq_decide.mpr (hm x hx)
  rw[e'];refine xg _ [] fun x y hx hy h=>hi x y ?_ ?_ h
  ·rcases hx with hx|hx
   ·cases hx
   ·exact of_decide_eq_true (List.mem_filter.mp hx).2
  ·rcases hy with hx|hx
   ·cases hx
   ·exact of_decide_eq_true (List.mem_filter.mp hx).2
 unfold num;by_cases h:cR l a
 ·rw[if_pos h,if_pos ((hm a ha).mpr h),e,ug _ fun x hx=>hi x a (jl.mp hx) h]
 ·rw[if_neg h,if_neg fun h'=>h ((hm a ha).mp h')]
theorem AU {l:List Int}{a:Int}(ha:a∈l) :num (l.map (num l)) (num l a) =num l a:=by
 refine AS (fun a _=>?_) (fun a b ha hb h=>pO ha hb h) ha;by_cases h:cR l a
 ·unfold cR;rw[iy,count_map l fun x hx e=>pO (iy.mp (by rw[e];exact iy.mpr h)) h e];exact⟨fun h'=>⟨h.1,h'.2⟩,fun h'=>⟨h,h'.2⟩⟩
 ·exact⟨fun h'=>absurd (iy.mp h'.1) h,fun h'=>absurd h' h⟩
def bC (l:List Int)(n:Nat) :List Int:=dd [] ((l.take n).filter fun c=>decide (cR l c))
theorem lV (l:List Int) :bC l l.length=cls l:=by unfold bC cls;rw[List.take_of_length_le aj]
theorem fp {l:List Int}{n:Nat}(h:n<l.length) :bC l (n+1) =if cR l l[n]/\l[n]∉bC l n then bC l n++ [l[n]]else bC l n:=by
 unfold bC;rw[List.take_succ_eq_append_getElem h,List.filter_append];by_cases hm:cR l l[n]
 ·rw[List.filter_cons,if_pos (decide_eq_true hm),List.filter_nil,tR]
  split
  ·rename_i h';rw[if_neg fun h=>h.2 h']
  ·rename_i h';rw[if_pos ⟨hm,h'⟩]
 ·rw[List.filter_cons,if_neg (by rw[decide_eq_true_iff];exact hm),List.filter_nil,List.append_nil,if_neg fun h=>hm h.1]
theorem qC {l:List Int} :∀{n m:Nat},n<=m->m<=l.length->∃r,bC l m=bC l n++r
 |n,m,h,hm=>by
  induction m with
  |zero=>obtain rfl:n=0:=by omega
         exact⟨[],by simp⟩
  |succ m ih=>
   by_cases e:n=m+1
   ·subst e;exact⟨[],by simp⟩
   ·obtain⟨r,hr⟩:=ih (by omega) (by omega);rw[fp (by omega),hr]
    split
    ·exact⟨r++ [l[m]],by rw[List.append_assoc]⟩
    ·exact⟨r,rfl⟩
theorem dC {l:List Int}{n:Nat}{c:Int}(hn:n<=l.length)(h:c∈bC l n) :num l c= ((bC l n).idxOf c:Int) +1:=by
 have hm:cR l c:=by
  unfold bC at h;rw[su]at h;exact h.elim (fun h=>by cases h) fun h=>of_decide_eq_true (List.mem_filter.mp h).2
 unfold num;obtain⟨r,hr⟩:=qC (l:=l) hn aj;rw[if_pos hm,<- lV,hr,List.idxOf_append,if_pos h]
theorem pP {l:List Int}{n:Nat}(h:n<l.length)(hm:cR l l[n])(hc:l[n]∉bC l n) :num l l[n] = ((bC l n).length:Int) +1:=by
 have e:bC l (n+1) =bC l n++ [l[n]] :=by rw[fp h,if_pos ⟨hm,hc⟩]
 rw[dC (n:=n+1) h (by rw[e];simp),e,List.idxOf_append,if_neg hc];simp
end Tre
namespace Tre
open Go.RowKit Pnm Go.Proofs.YtcjagakckffkiaaGreatDoor.Fit
def gj (x:Nd) :fM:= {k:=x.k,p:=x.p,m:=x.m,t:=x.t,s:=if x.k=1 then(x.d.length:Int)else 0}
def cI (x:Nd) :Int:=
 if x.k<0\/2<x.k then 8 else if dn (gj x)≠0 then dn (gj x)else if x.k≠1/\x.d≠ []then 2 else if x.c<0\/ (x.k≠1/\x.c≠0)then 15 else 0
def Gj:Nd:= {k:=0,p:=emp,m:=0,t:=emp,d:= [],c:=0}
def nd (l:List Nd)(i:Nat) :Nd:= (l[i]?).getD Gj
theorem ct {l:List Nd}{i:Nat}(h:i<l.length) :nd l i=l[i] :=by unfold nd;rw[List.getElem?_eq_getElem h];rfl
theorem cP {l:List Nd}{i:Nat}(h:i<l.length) :nd l i∈l:=by rw[ct h];exact List.getElem_mem h
theorem mQ {l:List Nd}{x:Nd}(h:x∈l) :∃i,i<l.length/\nd l i=x:=by
 obtain⟨i,hi,rfl⟩:=List.getElem_of_mem h;exact⟨i,hi,ct hi⟩
def wh (l:List Nd)(i:Nat) :Prop:=∃j,j<i/\ (nd l j).p= (nd l i).p
def qv (l:List Nd)(x:Nd) :Prop:=dt (key x) = []\/∃y∈l,y.k=0/\key y=dt (key x)
def wi (l:List Nd)(x:Nd) :Prop:=x.c≠0/\∃y,l.find? (fun y=>decide (y.c=x.c)) =some y/\¬(y.m=x.m/\y.d=x.d)
open Classical in
noncomputable def eR (l:List Nd)(i:Nat) :Int:=if wh l i then 14 else if¬qv l (nd l i)then 13 else if wi l (nd l i)then 15 else 0
open Classical in
noncomputable def kp (f:Nat->Int) :Nat->Option Nat
 |0=>none
 |n+1=>match kp f n with
  |some i=>some i
  |none=>if f n=0 then none else some n
theorem eP {f:Nat->Int} :∀{n:Nat},kp f n=none↔∀i,i<n->f i=0
 |0=>⟨fun _ i h=>absurd h (Nat.not_lt_zero i),fun _=>rfl⟩
 |n+1=>by
  have ih:=eP (f:=f) (n:=n);rw[kp];constructor
  ·intro h i hi
   cases e:kp f n with
   |some j=>rw[e]at h;cases h
   |none=>
    rw[e]at h;by_cases c:f n=0
    ·by_cases hin:i<n
     ·exact ih.mp e i hin
     ·obtain rfl:i=n:=by omega
      exact c
    ·simp[c]at h
  ·intro h;rw[ih.mpr fun i hi=>h i (by omega)];simp[h n (by omega)]
theorem my {f:Nat->Int}{i:Nat}(h:∀j,j<i->f j=0)(hi:f i≠0) :∀{n:Nat},i<n->kp f n=some i
 |0,hn=>absurd hn (Nat.not_lt_zero i)
 |n+1,hn=>by
  rw[kp];by_cases e:i=n
  ·subst e;rw[eP.mpr h];simp[hi]
  ·rw[my h hi (n:=n) (by omega)]
theorem uf {f:Nat->Int}{n i:Nat}(h:kp f n=some i) :i<n/\f i≠0/\∀j,j<i->f j=0:=by
 induction n with
 |zero=>cases h
 |succ n ih=>
  rw[kp]at h
  cases e:kp f n with
  |some j=>rw[e]at h;injection h with h;subst h;have:=ih e;exact⟨by omega,this.2⟩
  |none=>
   rw[e]at h;by_cases c:f n=0
   ·simp[c]at h
   ·simp[c]at h;subst h;exact⟨by omega,c,eP.mp e⟩
noncomputable def cA (l:List Nd) :Int×Int:=match kp (fun i=>cI (nd l i)) l.length with
 |some i=> ((i:Int),cI (nd l i))
 |none=>match kp (eR l) l.length with
  |some i=> ((i:Int),eR l i)
  |none=> ((l.length:Int),0)
theorem tI {l:List Nd}{i:Nat}(hi:i<l.length)(h:∀j,j<i->cI (nd l j) =0)(he:cI (nd l i)≠0) :cA l= ((i:Int),cI (nd l i)) :=by
 unfold cA;rw[my (f:=fun i=>cI (nd l i)) h he hi]
theorem tJ {l:List Nd}{i:Nat}(ho:∀j,j<l.length->cI (nd l j) =0)(hi:i<l.length)(h:∀j,j<i->eR l j=0)(he:eR l i≠0) :cA l= ((i:Int),eR l i) :=by
 unfold cA;rw[eP.mpr ho,my h he hi]
theorem ji {l:List Nd}(ho:∀j,j<l.length->cI (nd l j) =0)(h:∀j,j<l.length->eR l j=0) :cA l= ((l.length:Int),0) :=by
 unfold cA;rw[eP.mpr ho,eP.mpr h]
structure wj (l:List Nd) :Prop where
 one:∀x∈l,cI x=0
 EW:Cb l
 par:∀x∈l,qv l x
 cls:∀x∈l,∀y∈l,x.c≠0->x.c=y.c->x.m=y.m/\x.d=y.d
theorem gu {l:List Nd}{i:Nat} :eR l i=0↔¬wh l i/\qv l (nd l i)/\¬wi l (nd l i) :=by
 unfold eR;by_cases h1:wh l i
 ·simp[h1]
 ·by_cases h2:qv l (nd l i)
  ·by_cases h3:wi l (nd l i) <;>simp[h1,h2,h3]
  ·simp[h1,h2]
theorem pn {l:List Nd} :Cb l↔∀i,i<l.length->¬wh l i:=by
 unfold Cb;rw[List.pairwise_iff_getElem];constructor
 ·rintro h i hi ⟨j,hj,e⟩;rw[ct (by omega),ct hi]at e;exact h j i (by omega) hi hj e
 ·intro h i j hi hj hij e;exact h j hj ⟨i,hij,by rw[ct hi,ct hj];exact e⟩
theorem wj.xO {l:List Nd}(h:∀x∈l,∀y∈l,x.c≠0->x.c=y.c->x.m=y.m/\x.d=y.d){x:Nd}(hx:x∈l) :¬wi l x:=by
 rintro⟨h0,y,hy,hn⟩;have e:y.c=x.c:=by have:=List.find?_some hy;exact of_decide_eq_true this
 exact hn (h y (List.mem_of_find?_eq_some hy) x hx (by rw[e];exact h0) e)
theorem sC {l:List Nd}{x:Nd}(hx:x∈l) :∃y,l.find? (fun y=>decide (y.c=x.c)) =some y:=by
 cases e:l.find? (fun y=>decide (y.c=x.c))with
 |some y=>exact⟨y,rfl⟩
 |none=>
  rw[List.find?_eq_none]at e;exact absurd (decide_eq_true rfl) (e x hx)
theorem lU {l:List Nd} : (cA l).2=0↔wj l:=by
 constructor
 ·intro h;unfold cA at h
  cases e1:kp (fun i=>cI (nd l i)) l.length with
  |some i=>rw[e1]at h;exact absurd h (uf e1).2.1
  |none=>
   rw[e1]at h
   cases e2:kp (eR l) l.length with
   |some i=>simp only[e2]at h;exact absurd h (uf e2).2.1
   |none=>
    have h1:=eP.mp e1;have h2:=eP.mp e2;refine⟨fun x hx=>?_,pn.mpr fun i hi=> (gu.mp (h2 i hi)).1,fun x hx=>?_,fun x hx y hy h0 e=>?_⟩
    ·obtain⟨i,hi,rfl⟩:=mQ hx;exact h1 i hi
    ·obtain⟨i,hi,rfl⟩:=mQ hx;exact(gu.mp (h2 i hi)).2.1
    ·obtain⟨z,hz⟩:=sC hx;have hz':l.find? (fun z=>decide (z.c=y.c)) =some z:=by rw[<- e];exact hz
     obtain⟨i,hi,ei⟩:=mQ hx;obtain⟨j,hj,ej⟩:=mQ hy;have o1:= (gu.mp (h2 i hi)).2.2;have o2:= (gu.mp (h2 j hj)).2.2;rw[ei]at o1;rw[ej]at o2;have f1:z.m=x.m/\z.d=x.d:=Classical.byContradiction fun hn=>o1 ⟨h0,z,hz,hn⟩;have f2:z.m=y.m/\z.d=y.d:=Classical.byContradiction fun hn=>o2 ⟨by rw[<- e];exact h0,z,hz',hn⟩;exact⟨f1.1.symm.trans f2.1,f1.2.symm.trans f2.2⟩
 ·intro h;rw[ji (fun _ hj=>h.one _ (cP hj)) fun j hj=>gu.mpr ⟨pn.mp h.EW j hj,h.par _ (cP hj),wj.xO h.cls (cP hj)⟩]
theorem tK {l:List Nd}(h:wj l) :cA l= ((l.length:Int),0) :=
 ji (fun _ hj=>h.one _ (cP hj)) fun j hj=>gu.mpr ⟨pn.mp h.EW j hj,h.par _ (cP hj),wj.xO h.cls (cP hj)⟩
def cs (l:List Nd) :List Int:=l.map Nd.c
def ka (l:List Nd)(x:Nd) :Nd:= {x with c:=num (cs l) x.c}
def canon (l:List Nd) :List Nd:= (eD l).map (ka (eD l))
theorem ov (l:List Nd) : (canon l).length=l.length:=by unfold canon;rw[List.length_map,Bz]
theorem CD {l:List Nd}{f:Nd->Nd}{g:Int->Int}(h:∀x∈l,(f x).c=g x.c) :cs (l.map f) = (cs l).map g:=by
 unfold cs;rw[List.map_map,List.map_map];exact List.map_congr_left h
theorem kG (l:List Nd) :pj (canon l) :=by
 have h:=uJ l;unfold canon pj at*;rw[List.pairwise_map];exact h.imp fun{x y} h=>h
theorem qA (l:List Nd) :canon (canon l) =canon l:=by
 have e:eD (canon l) =canon l:=yT (kG l);show(eD (canon l)).map (ka (eD (canon l))) =canon l;rw[e];show((eD l).map (ka (eD l))).map (ka (canon l)) = (eD l).map (ka (eD l));rw[List.map_map];refine List.map_congr_left fun x hx=>?_;show ka (canon l) (ka (eD l) x) =ka (eD l) x;unfold ka;have ec:cs (canon l) = (cs (eD l)).map (num (cs (eD l))) :=CD fun x _=>rfl;rw[ec];show({x with c:=num _ (num (cs (eD l)) x.c)} :Nd) =_;rw[AU (show x.c∈cs (eD l)from List.mem_map_of_mem (f:=Nd.c) hx)]
theorem AW {x:Nd}{c:Int}(h:cI x=0)(hc:0<=c)(hz:x.c=0->c=0) :cI {x with c:=c} =0:=by
 unfold cI at*;have e:gj {x with c:=c} =gj x:=rfl;rw[e];by_cases h1:x.k<0\/2<x.k
 ·rw[if_pos h1]at h;cases h
 ·rw[if_neg h1]at h;by_cases h2:dn (gj x)≠0
  ·rw[if_pos h2]at h;exact absurd h h2
  ·rw[if_neg h2]at h;by_cases h3:x.k≠1/\x.d≠ []
   ·rw[if_pos h3]at h;cases h
   ·rw[if_neg h3]at h;by_cases h4:x.c<0\/ (x.k≠1/\x.c≠0)
    ·rw[if_pos h4]at h;cases h
    ·show(if x.k<0\/2<x.k then(8:Int)else if dn (gj x)≠0 then dn (gj x)else if x.k≠1/\x.d≠ []then 2 else if c<0\/ (x.k≠1/\c≠0)then 15 else 0) =0;rw[if_neg h1,if_neg h2,if_neg h3,if_neg];rintro(h5|⟨h5,h6⟩)
     ·omega
     ·exact h4 (.inr ⟨h5,fun e=>h6 (hz e)⟩)
theorem kW {x:Nd}(h:cI x=0) :0<=x.c/\ (x.k≠1->x.c=0)/\ (x.k≠1->x.d= [])/\0<=x.k/\x.k<=2/\nV (key x) =0:=by
 unfold cI at h;by_cases h1:x.k<0\/2<x.k
 ·rw[if_pos h1]at h;cases h
 ·rw[if_neg h1]at h;by_cases h2:dn (gj x)≠0
  ·rw[if_pos h2]at h;exact absurd h h2
  ·rw[if_neg h2]at h;by_cases h3:x.k≠1/\x.d≠ []
   ·rw[if_pos h3]at h;cases h
   ·rw[if_neg h3]at h;by_cases h4:x.c<0\/ (x.k≠1/\x.c≠0)
    ·rw[if_pos h4]at h;cases h
    ·exact⟨by omega,fun e=>Classical.byContradiction fun h=>h4 (.inr ⟨e,h⟩),fun e=>Classical.byContradiction fun h=>h3 ⟨e,h⟩,by omega,by omega,(fw.mp (Classical.not_not.mp h2)).path⟩
theorem uY {l:List Nd}(h:wj l) :wj (canon l) :=by
 have mem:∀{x},x∈canon l->∃y∈l,x=ka (eD l) y:=fun{x} hx=>by
  obtain⟨y,hy,rfl⟩:=List.mem_map.mp hx;exact⟨y,(uI l y).mp hy,rfl⟩
 have mem':∀{y},y∈l->ka (eD l) y∈canon l:=fun{y} hy=>List.mem_map_of_mem (f:=ka (eD l)) ((uI l y).mpr hy);refine⟨fun x hx=>?_,?_,fun x hx=>?_,fun x hx y hy h0 e=>?_⟩
 ·obtain⟨y,hy,rfl⟩:=mem hx;refine AW (h.one y hy) (num_nonneg _ _) fun e=>?_;unfold num;rw[e,if_neg fun hm=>absurd hm.1 (by decide)]
 ·have h':=h.EW.perm (jR l).symm;unfold canon Cb at*;rw[List.pairwise_map];exact h'.imp fun{x y} h=>h
 ·obtain⟨y,hy,rfl⟩:=mem hx;rcases h.par y hy with e|⟨z,hz,hk,e⟩
  ·exact .inl e
  ·exact .inr ⟨ka (eD l) z,mem' hz,hk,e⟩
 ·obtain⟨a,ha,rfl⟩:=mem hx;obtain⟨b,hb,rfl⟩:=mem hy;have e':num (cs (eD l)) a.c=num (cs (eD l)) b.c:=e;have p1:0<num (cs (eD l)) a.c:=by have:=num_nonneg (cs (eD l)) a.c;have h1:num (cs (eD l)) a.c≠0:=h0;omega
  have m1:=iy.mp p1;have m2:=iy.mp (e'▸p1);exact h.cls a ha b hb (by have:=m1.1;omega) (pO m1 m2 e')
end Tre
end Go.Proofs.YtcjagakckffkiaaGreatDoor
