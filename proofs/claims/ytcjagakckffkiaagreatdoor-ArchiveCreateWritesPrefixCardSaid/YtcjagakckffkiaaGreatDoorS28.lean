import Derived.Test.YtcjagakckffkiaaGreatDoorS3
set_option maxHeartbeats 16000000
set_option maxRecDepth 100000
namespace Go.Proofs.YtcjagakckffkiaaGreatDoor
open Pnm
namespace Stab
section
variable {α:Type} [Inhabited α] (K:α->List Int)
def g (l:List α)(i:Nat) :α:= (l[i]?).getD default
theorem qY {l:List α}{i:Nat}(h:i<l.length) :g l i=l[i] :=by unfold g;rw[List.getElem?_eq_getElem h];rfl
theorem pE {l:List α}{i:Nat}(h:i<l.length) :l[i]? =some (g l i) :=by rw[qY h];exact List.getElem?_eq_getElem h
def Ix (zs ys:List α)(σ:Nat->Nat) :Prop:=zs.length=ys.length/\∀k,zs[k]? =ys[σ k]?
theorem Ix.g {zs ys:List α}{σ:Nat->Nat}(h:Ix zs ys σ)(k:Nat) :Stab.g zs k=Stab.g ys (σ k) :=by unfold Stab.g;rw[h.2]
omit [Inhabited α] in
theorem Ix.refl (ys:List α){σ:Nat->Nat}(h:∀k,σ k=k) :Ix ys ys σ:=⟨rfl,fun k=>by rw[h]⟩
omit [Inhabited α] in
theorem Ix.trans {zs ys xs:List α}{σ τ ρ:Nat->Nat}(h:Ix zs ys σ)(h':Ix xs zs τ)(e:∀k,σ (τ k) =ρ k) :Ix xs ys ρ:=
 ⟨h'.1.trans h.1,fun k=>by rw[h'.2,h.2,e]⟩
omit [Inhabited α] in
def swp (i j k:Nat) :Nat:=if k=i then j else if k=j then i else k
def fL (a m b k:Nat) :Nat:=if a<=k/\k<a+ (b- m)then k+ (m- a)else if a+ (b- m)<=k/\k<b then k- (b- m)else k
def zG (l:List α)(i j:Nat) :List α:= (l.set i (g l j)).set j (g l i)
theorem qk {l:List α}{i j:Nat}(hi:i<l.length)(hj:j<l.length) :Ix (zG l i j) l (swp i j) :=by
 refine⟨by unfold zG;simp,fun k=>?_⟩;unfold zG swp;by_cases hkj:k=j
 ·subst hkj;rw[List.getElem?_set_self (by rw[List.length_set];exact hj)];by_cases hki:k=i
  ·subst hki;rw[if_pos rfl];exact(pE hi).symm
  ·rw[if_neg hki,if_pos rfl];exact(pE hi).symm
 ·rw[List.getElem?_set_ne (Ne.symm hkj)];by_cases hki:k=i
  ·subst hki;rw[List.getElem?_set_self hi,if_pos rfl];exact(pE hj).symm
  ·rw[List.getElem?_set_ne (Ne.symm hki),if_neg hki,if_neg hkj]
def lQ (ys zs:List α) :Prop:=∀q:List Int,zs.filter (fun x=>decide (K x=q)) =ys.filter (fun x=>decide (K x=q))
variable {K}
omit [Inhabited α] in
theorem lQ.refl (ys:List α) :lQ K ys ys:=fun _=>rfl
omit [Inhabited α] in
theorem lQ.trans {ys zs xs:List α}(h:lQ K ys zs)(h':lQ K zs xs) :lQ K ys xs:=fun q=> (h' q).trans (h q)
omit [Inhabited α] in
theorem lQ.mem {ys zs:List α}(h:lQ K ys zs){x:α}(hx:x∈zs) :x∈ys:=by
 have:x∈zs.filter (fun y=>decide (K y=K x)) :=List.mem_filter.mpr ⟨hx,decide_eq_true rfl⟩;rw[h]at this;exact(List.mem_filter.mp this).1
omit [Inhabited α] in
theorem yJ {ys zs:List α}{a m b:Nat}(h:Ix zs ys (fL a m b))(ha:a<=m)(hm:m<=b)(hb:b<=ys.length) :
 ys=ys.take a++ ((ys.drop a).take (m- a) ++ ((ys.drop m).take (b- m) ++ys.drop b))/\zs=ys.take a++ ((ys.drop m).take (b- m) ++ ((ys.drop a).take (m- a) ++ys.drop b)) :=by
 have e1:ys.drop a= (ys.drop a).take (m- a) ++ys.drop m:=by
  conv=>lhs;rw[<- List.take_append_drop (m- a) (ys.drop a),List.drop_drop]
  rw[show a+ (m- a) =m by omega]
 have e2:ys.drop m= (ys.drop m).take (b- m) ++ys.drop b:=by
  conv=>lhs;rw[<- List.take_append_drop (b- m) (ys.drop m),List.drop_drop]
  rw[show m+ (b- m) =b by omega]
 refine⟨?_,?_⟩
 ·rw[<- e2,<- e1,List.take_append_drop]
 ·apply List.ext_getElem?;intro k;rw[h.2 k];unfold fL;have l1: (ys.take a).length=a:=by rw[List.length_take];omega
  have l2: ((ys.drop m).take (b- m)).length=b- m:=by rw[List.length_take,List.length_drop];omega
  have l3: ((ys.drop a).take (m- a)).length=m- a:=by rw[List.length_take,List.length_drop];omega
  by_cases c1:k<a
  ·rw[if_neg (by omega),if_neg (by omega),List.getElem?_append_left (by omega),List.getElem?_take_of_lt c1]
  ·rw[List.getElem?_append_right (by omega),l1];by_cases c2:k<a+ (b- m)
   ·rw[if_pos (by omega),List.getElem?_append_left (by omega),List.getElem?_take_of_lt (by omega),List.getElem?_drop]
    congr 1;omega
   ·rw[if_neg (by omega),List.getElem?_append_right (by omega),l2];by_cases c3:k<b
    ·rw[if_pos (by omega),List.getElem?_append_left (by omega),List.getElem?_take_of_lt (by omega),List.getElem?_drop]
     congr 1;omega
    ·rw[if_neg (by omega),List.getElem?_append_right (by omega),l3,List.getElem?_drop]
     congr 1;omega
theorem pY {ys zs:List α}{a m b:Nat}(h:Ix zs ys (fL a m b))(ha:a<=m)(hm:m<=b)(hb:b<=ys.length)
 (hd:∀i j,a<=i->i<m->m<=j->j<b->K (g ys i)≠K (g ys j)) :lQ K ys zs:=by
 intro q;obtain⟨e1,e2⟩:=yJ h ha hm hb
 have hnil: (((ys.drop a).take (m- a)).filter (fun x=>decide (K x=q)) = [])\/ (((ys.drop m).take (b- m)).filter (fun x=>decide (K x=q)) = []) :=by
  by_cases c: ((ys.drop a).take (m- a)).filter (fun x=>decide (K x=q)) = []
  ·exact .inl c
  ·refine .inr (List.filter_eq_nil_iff.mpr fun y hy hq=>c (List.filter_eq_nil_iff.mpr fun x hx hp=>?_));obtain⟨i,hi,rfl⟩:=List.getElem_of_mem hx;obtain⟨j,hj,rfl⟩:=List.getElem_of_mem hy;rw[List.length_take,List.length_drop]at hi hj;rw[List.getElem_take,List.getElem_drop]at hp hq;have:=hd (a+i) (m+j) (by omega) (by omega) (by omega) (by omega);rw[qY (by omega),qY (by omega)]at this;exact this ((of_decide_eq_true hp).trans (of_decide_eq_true hq).symm)
 rw[e2]
 conv=>rhs;rw[e1]
 simp only[List.filter_append];rcases hnil with c|c<;>rw[c] <;>simp
structure jX (ys zs:List α) (a b:Nat) :Prop where
 len:zs.length=ys.length
 out:∀k,k<a\/b<=k->g zs k=g ys k
 DY:∀k,a<=k->k<b->∃j,a<=j/\j<b/\g zs k=g ys j
theorem jX.refl (ys:List α)(a b:Nat) :jX ys ys a b:=⟨rfl,fun _ _=>rfl,fun k h h'=>⟨k,h,h',rfl⟩⟩
theorem jX.trans {ys zs xs:List α}{a b:Nat}(h:jX ys zs a b)(h':jX zs xs a b) :jX ys xs a b:=
 ⟨h'.len.trans h.len,fun k hk=> (h'.out k hk).trans (h.out k hk),fun k h1 h2=>by
  obtain⟨j,j1,j2,e⟩:=h'.DY k h1 h2;obtain⟨i,i1,i2,e'⟩:=h.DY j j1 j2;exact⟨i,i1,i2,e.trans e'⟩⟩
theorem jX.wide {ys zs:List α}{a b c d:Nat}(h:jX ys zs a b)(hc:c<=a)(hd:b<=d) :jX ys zs c d:=
 ⟨h.len,fun k hk=>h.out k (by omega),fun k h1 h2=>by
  by_cases hk:a<=k/\k<b
  ·obtain⟨j,j1,j2,e⟩:=h.DY k hk.1 hk.2;exact⟨j,by omega,by omega,e⟩
  ·exact⟨k,h1,h2,h.out k (by omega)⟩⟩
theorem pZ {ys zs:List α}{s m e:Nat}(h:Ix zs ys (fL s m e))(h1:s<=m)(h2:m<=e) :jX ys zs s e:=by
 refine⟨h.1,fun k hk=>?_,fun k k1 k2=>⟨fL s m e k,?_,?_,h.g k⟩⟩
 ·rw[h.g];unfold fL;rw[if_neg (by omega),if_neg (by omega)]
 ·unfold fL;split
  ·omega
  ·split<;>omega
 ·unfold fL;split
  ·omega
  ·split<;>omega
def bp (K:α->List Int)(ys:List α)(a b:Nat) :Prop:=∀i j,a<=i->i<j->j<b->aR (K (g ys i)) (K (g ys j))<=0
theorem bp.le {ys:List α}{a b:Nat}(h:bp K ys a b){i j:Nat}(h1:a<=i)(h2:i<=j)(h3:j<b) :aR (K (g ys i)) (K (g ys j))<=0:=by
 by_cases e:i=j
 ·subst e;rw[(cmp_eq _ _).mpr rfl];exact Int.le_refl 0
 ·exact h i j h1 (by omega) h3
theorem bp.sub {ys:List α}{a b c d:Nat}(h:bp K ys a b)(h1:a<=c)(h2:d<=b) :bp K ys c d:=fun i j k1 k2 k3=>h i j (by omega) k2 (by omega)
theorem bp.one (ys:List α)(a b:Nat)(h:b<=a+1) :bp K ys a b:=fun i j k1 k2 k3=>by omega
theorem bp.out {ys zs:List α}{a b c d:Nat}(h:bp K ys c d)(hw:jX ys zs a b)(hd:d<=a\/b<=c) :bp K zs c d:=fun i j k1 k2 k3=>by
 rw[hw.out i (by omega),hw.out j (by omega)];exact h i j k1 k2 k3
theorem glue {ys:List α}{a c b:Nat}(h:bp K ys a c)(h':bp K ys c b)(hx:∀i j,a<=i->i<c->c<=j->j<b->aR (K (g ys i)) (K (g ys j))<=0) :bp K ys a b:=fun i j k1 k2 k3=>by
 by_cases c1:j<c
 ·exact h i j k1 k2 c1
 ·by_cases c2:i<c
  ·exact hx i j k1 c2 (by omega) k3
  ·exact h' i j (by omega) k2 k3
theorem xH {p q:List Int}(h:aR p q<0) :q≠p:=fun e=>by rw[(cmp_eq p q).mpr e.symm]at h;exact absurd h (Int.lt_irrefl 0)
theorem mH {p q:List Int}(h:¬aR p q<0) :aR q p<=0:=by rw[fe];omega
theorem rj {p q r:List Int}(h:aR p q<=0)(h':aR q r<0) :aR p r<0:=by
 apply Decidable.byContradiction;intro c;have:=cm _ _ _ (mH c) h;rw[fe]at this;omega
theorem ib {p q r:List Int}(h:aR p q<0)(h':aR q r<=0) :aR p r<0:=by
 apply Decidable.byContradiction;intro c;have:=cm _ _ _ h' (mH c);rw[fe]at this;omega
structure kO (K:α->List Int) (ys zs:List α) (a b:Nat) :Prop where
 win:jX ys zs a b
 yV:lQ K ys zs
 eD:bp K zs a b
theorem kO.id {ys:List α}{a b:Nat}(h:bp K ys a b) :kO K ys ys a b:=⟨jX.refl _ _ _,lQ.refl _,h⟩
theorem ui {ys zs:List α}{a i m:Nat}(h:Ix zs ys (fL i m (m+1)))(ha:a<=i)(hi:i<=m)(hm:m<ys.length)(hs:bp K ys a m)
 (h1:∀k,a<=k->k<i->aR (K (g ys k)) (K (g ys m))<=0)(h2:∀k,i<=k->k<m->aR (K (g ys m)) (K (g ys k)) <0) :kO K ys zs a (m+1) :=by
 have hw:=pZ h hi (Nat.le_succ m);refine⟨hw.wide ha aj,pY h hi (Nat.le_succ m) hm fun x y x1 x2 y1 y2=>?_,?_⟩
 ·obtain rfl:y=m:=by omega
  exact xH (h2 x x1 x2)
 ·intro x y x1 x2 y1;rw[h.g x,h.g y];unfold fL;by_cases c1:y<i
  ·rw[if_neg (by omega),if_neg (by omega),if_neg (by omega),if_neg (by omega)];exact hs x y x1 x2 (by omega)
  ·by_cases c2:y=i
   ·subst c2;rw[if_neg (by omega),if_neg (by omega),if_pos (by omega),show y+ (m- y) =m by omega];exact h1 x x1 (by omega)
   ·rw[if_neg (c:=y≥i/\_) (by omega),if_pos (c:=i+ (m+1- m)<=y/\_) (by omega),show y- (m+1- m) =y- 1 by omega];by_cases d1:x<i
    ·rw[if_neg (by omega),if_neg (by omega)];exact hs x (y- 1) x1 (by omega) (by omega)
    ·by_cases d2:x=i
     ·subst d2;rw[if_pos (by omega),show x+ (m- x) =m by omega];exact Int.le_of_lt (h2 (y- 1) (by omega) (by omega))
     ·rw[if_neg (by omega),if_pos (by omega),show x- (m+1- m) =x- 1 by omega];exact hs (x- 1) (y- 1) (by omega) (by omega) (by omega)
theorem Ap {ys zs:List α}{a i b:Nat}(h:Ix zs ys (fL a (a+1) i))(ha:a+1<=i)(hi:i<=b)(hb:b<=ys.length)(hs:bp K ys (a+1) b)
 (h1:∀k,a+1<=k->k<i->aR (K (g ys k)) (K (g ys a)) <0)(h2:∀k,i<=k->k<b->aR (K (g ys a)) (K (g ys k))<=0) :kO K ys zs a b:=by
 have hw:=pZ h (Nat.le_succ a) ha;refine⟨hw.wide aj hi,pY h (Nat.le_succ a) ha (by omega) fun x y x1 x2 y1 y2=>?_,?_⟩
 ·obtain rfl:x=a:=by omega
  exact fun e=>xH (h1 y y1 y2) e
 ·intro x y x1 x2 y1;rw[h.g x,h.g y];unfold fL;by_cases c1:i<=x
  ·rw[if_neg (by omega),if_neg (by omega),if_neg (by omega),if_neg (by omega)];exact hs x y (by omega) x2 y1
  ·by_cases c2:x=i- 1
   ·subst c2;rw[if_neg (c:=a<=i- 1/\_) (by omega),if_pos (c:=a+ (i- (a+1))<=i- 1/\_) (by omega),if_neg (by omega),if_neg (by omega),show i- 1- (i- (a+1)) =a by omega];exact h2 y (by omega) y1
   ·rw[if_pos (c:=a<=x/\_) (by omega),show x+ (a+1- a) =x+1 by omega];by_cases d1:i<=y
    ·rw[if_neg (by omega),if_neg (by omega)];exact hs (x+1) y (by omega) (by omega) (by omega)
    ·by_cases d2:y=i- 1
     ·subst d2;rw[if_neg (by omega),if_pos (by omega),show i- 1- (i- (a+1)) =a by omega];exact Int.le_of_lt (h1 (x+1) (by omega) (by omega))
     ·rw[if_pos (by omega),show y+ (a+1- a) =y+1 by omega];exact hs (x+1) (y+1) (by omega) (by omega) (by omega)
structure Cut (K:α->List Int) (ys:List α) (a m b dv s:Nat) :Prop where
 as:a<=s
 sm:s<=m
 me:m<=dv+m- s
 eb:dv+m- s<=b
 le:s<=dv
 gt:∀i j,s<=i->i<m->m<=j->j<dv+m- s->aR (K (g ys j)) (K (g ys i)) <0
 ok:∀i j,a<=i->i<s->dv+m- s<=j->j<b->aR (K (g ys i)) (K (g ys j))<=0
def B (K:α->List Int)(ys:List α)(p c:Nat) :Prop:=aR (K (g ys (p- c))) (K (g ys c)) <0
def lo (a m b dv:Nat) :Nat:=if dv<m then dv+m- b else a
def hi (m dv:Nat) :Nat:=if dv<m then dv else m
theorem Ed {a m b dv:Nat}(ham:a<m)(hmb:m<b)(h1:dv*2<=a+b)(h2:a+b<=dv*2+1) :a<=lo a m b dv/\lo a m b dv<=hi m dv/\hi m dv<=m/\hi m dv<=dv/\dv+m- b<=lo a m b dv:=by
 unfold lo hi;split<;>omega
theorem CF {ys:List α}{a m b dv s:Nat}(ham:a<m)(hmb:m<b)(hm1:dv*2<=a+b)(hm2:a+b<=dv*2+1)(h1:bp K ys a m)(h2:bp K ys m b)(hl:lo a m b dv<=s)(hh:s<=hi m dv)
 (hn:lo a m b dv<s->¬B K ys (dv+m- 1) (s- 1))(hy:s<hi m dv->B K ys (dv+m- 1) s) :Cut K ys a m b dv s:=by
 unfold lo at hl hn;unfold hi at hh hy;by_cases c:dv<m
 ·rw[if_pos c]at hl hn hh hy;refine⟨by omega,by omega,by omega,by omega,by omega,fun i j i1 i2 j1 j2=>?_,fun i j i1 i2 j1 j2=>?_⟩
  ·have hb:=hy (by omega);unfold B at hb;exact ib (rj (h2.le j1 (show j<=dv+m- 1- s by omega) (by omega)) hb) (h1.le (by omega) i1 i2)
  ·have hb:=hn (by omega);unfold B at hb;exact cm _ _ _ (cm _ _ _ (h1.le i1 (show i<=s- 1 by omega) (by omega)) (mH hb)) (h2.le (by omega) (by omega) j2)
 ·rw[if_neg c]at hl hn hh hy;refine⟨by omega,by omega,by omega,by omega,by omega,fun i j i1 i2 j1 j2=>?_,fun i j i1 i2 j1 j2=>?_⟩
  ·have hb:=hy (by omega);unfold B at hb;exact ib (rj (h2.le j1 (show j<=dv+m- 1- s by omega) (by omega)) hb) (h1.le (by omega) i1 i2)
  ·have hb:=hn (by omega);unfold B at hb;exact cm _ _ _ (cm _ _ _ (h1.le i1 (show i<=s- 1 by omega) (by omega)) (mH hb)) (h2.le (by omega) (by omega) j2)
theorem Cw {ys:List α}{a m b dv c d:Nat}(ham:a<m)(hmb:m<b)(hm1:dv*2<=a+b)(hm2:a+b<=dv*2+1)(h1:bp K ys a m)(h2:bp K ys m b)(hl:lo a m b dv<=c)(hcd:c<=d)(hh:d<hi m dv)
 (h:B K ys (dv+m- 1) c) :B K ys (dv+m- 1) d:=by
 unfold lo at hl;unfold hi at hh;unfold B at h⊢;by_cases e:dv<m
 ·rw[if_pos e]at hl hh;exact ib (rj (h2.le (show m<=dv+m- 1- d by omega) (show dv+m- 1- d<=dv+m- 1- c by omega) (by omega)) h) (h1.le (by omega) hcd (by omega))
 ·rw[if_neg e]at hl hh;exact ib (rj (h2.le (show m<=dv+m- 1- d by omega) (show dv+m- 1- d<=dv+m- 1- c by omega) (by omega)) h) (h1.le (by omega) hcd (by omega))
structure EV (K:α->List Int) (ys zs:List α) (a m b dv s:Nat) :Prop where
 win:jX ys zs a b
 yV:lQ K ys zs
 s1:bp K zs a s
 s2:bp K zs s dv
 s3:bp K zs dv (dv+m- s)
 s4:bp K zs (dv+m- s) b
 x:∀i j,a<=i->i<dv->dv<=j->j<b->aR (K (g zs i)) (K (g zs j))<=0
theorem Dj {ys zs:List α}{a m b dv s:Nat}(hb:b<=ys.length)(h1:bp K ys a m)(h2:bp K ys m b)(c:Cut K ys a m b dv s)
 (h:Ix zs ys (fL s m (dv+m- s))) :EV K ys zs a m b dv s:=by
 obtain⟨c1,c2,c3,c4,c5,c6,c7⟩:=c;have hw:=pZ h c2 c3;refine⟨hw.wide c1 c4,pY h c2 c3 (by omega) fun i j i1 i2 j1 j2=>xH (c6 i j i1 i2 j1 j2),?_,?_,?_,?_,?_⟩
 ·exact(h1.sub aj c2).out hw (.inl aj)
 ·intro i j i1 i2 i3;rw[h.g,h.g];unfold fL;rw[if_pos (by omega),if_pos (by omega)];exact h2 _ _ (by omega) (by omega) (by omega)
 ·intro i j i1 i2 i3;rw[h.g,h.g];unfold fL;rw[if_neg (by omega),if_pos (by omega),if_neg (by omega),if_pos (by omega)];exact h1 _ _ (by omega) (by omega) (by omega)
 ·exact(h2.sub (by omega) aj).out hw (.inr aj)
 ·intro i j i1 i2 j1 j2;rw[h.g,h.g];unfold fL;by_cases d1:i<s
  ·rw[if_neg (c:=s<=i/\_) (by omega),if_neg (c:=s+ (dv+m- s- m)<=i/\_) (by omega),if_neg (by omega)];by_cases d2:j<dv+m- s
   ·rw[if_pos (by omega)];exact h1.le i1 (by omega) (by omega)
   ·rw[if_neg (by omega)];exact c7 i j i1 d1 (by omega) j2
  ·rw[if_pos (c:=s<=i/\_) (by omega),if_neg (by omega)];by_cases d2:j<dv+m- s
   ·rw[if_pos (by omega)];exact Int.le_of_lt (c6 _ _ (by omega) (by omega) (by omega) (by omega))
   ·rw[if_neg (by omega)];exact h2.le (by omega) (by omega) j2
theorem AP {ys zs xs us:List α}{a m b dv s:Nat}(h:EV K ys zs a m b dv s)(ha:a<=dv)(hb:dv<=b)(h1:kO K zs xs a dv)(h2:kO K xs us dv b) :kO K ys us a b:=by
 refine⟨h.win.trans ((h1.win.wide aj hb).trans (h2.win.wide ha aj)),h.yV.trans (h1.yV.trans h2.yV),glue (h1.eD.out h2.win (.inl aj)) h2.eD fun i j i1 i2 j1 j2=>?_⟩;obtain⟨j',k1,k2,e⟩:=h2.win.DY j j1 j2;rw[e,h1.win.out j' (.inr k1),h2.win.out i (.inl i2)];obtain⟨i',l1,l2,e'⟩:=h1.win.DY i i1 i2;rw[e'];exact h.x i' j' l1 l2 k1 k2
def oY (a b n k:Nat) :Nat:=if a<=k/\k<a+n then k- a+b else if b<=k/\k<b+n then k- b+a else k
theorem zf (a b k:Nat) :oY a b 0 k=k:=by unfold oY;rw[if_neg (by omega),if_neg (by omega)]
theorem ze {a b n:Nat}(h:a+n<b)(k:Nat) :oY a b n (swp (a+n) (b+n) k) =oY a b (n+1) k:=by
 unfold oY swp;by_cases c1:k=a+n
 ·rw[if_pos c1,if_neg (by omega),if_neg (by omega),if_pos (by omega)];omega
 ·rw[if_neg c1];by_cases c2:k=b+n
  ·rw[if_pos c2,if_neg (by omega),if_neg (by omega),if_neg (by omega),if_pos (by omega)];omega
  ·rw[if_neg c2];by_cases c3:a<=k/\k<a+n
   ·rw[if_pos c3,if_pos (by omega)]
   ·rw[if_neg c3,if_neg (c:=a<=k/\k<a+ (n+1)) (by omega)];by_cases c4:b<=k/\k<b+n
    ·rw[if_pos c4,if_pos (by omega)]
    ·rw[if_neg c4,if_neg (by omega)]
theorem bM (a m b k:Nat) : (a<=k/\k<a+ (b- m)/\fL a m b k=k+ (m- a))\/ (a+ (b- m)<=k/\k<b/\fL a m b k=k- (b- m))\/ ((k<a\/b<=k/\a+ (b- m)<=k)/\fL a m b k=k) :=by
 unfold fL;by_cases c:a<=k/\k<a+ (b- m)
 ·rw[if_pos c];omega
 ·rw[if_neg c];by_cases d:a+ (b- m)<=k/\k<b
  ·rw[if_pos d];omega
  ·rw[if_neg d];omega
theorem kH (a b n k:Nat) : (a<=k/\k<a+n/\oY a b n k=k- a+b)\/ (b<=k/\k<b+n/\ (k<a\/a+n<=k)/\oY a b n k=k- b+a)\/ ((k<a\/a+n<=k)/\ (k<b\/b+n<=k)/\oY a b n k=k) :=by
 unfold oY;by_cases c:a<=k/\k<a+n
 ·rw[if_pos c];omega
 ·rw[if_neg c];by_cases d:b<=k/\k<b+n
  ·rw[if_pos d];omega
  ·rw[if_neg d];omega
theorem oX (i j k:Nat) : (k=i/\swp i j k=j)\/ (k≠i/\k=j/\swp i j k=i)\/ (k≠i/\k≠j/\swp i j k=k) :=by
 unfold swp;by_cases c:k=i
 ·rw[if_pos c];omega
 ·rw[if_neg c];by_cases d:k=j
  ·rw[if_pos d];omega
  ·rw[if_neg d];omega
theorem yI {m i j:Nat}(hi:i<=m)(hij:j<i)(k:Nat) :oY (m- i) m j (fL (m- (i- j)) m (m+j) k) =fL (m- i) m (m+j) k:=by
 have h1:=bM (m- (i- j)) m (m+j) k;have h2:=bM (m- i) m (m+j) k;have h3:=kH (m- i) m j (fL (m- (i- j)) m (m+j) k);omega
theorem vO {m i j:Nat}(hi:i<=m)(hij:i<j)(k:Nat) :oY (m- i) (m+j- i) i (fL (m- i) m (m+ (j- i)) k) =fL (m- i) m (m+j) k:=by
 have h1:=bM (m- i) m (m+ (j- i)) k;have h2:=bM (m- i) m (m+j) k;have h3:=kH (m- i) (m+j- i) i (fL (m- i) m (m+ (j- i)) k);omega
theorem yH {m i:Nat}(hi:i<=m)(k:Nat) :oY (m- i) m i k=fL (m- i) m (m+i) k:=by
 have h2:=bM (m- i) m (m+i) k;have h3:=kH (m- i) m i k;omega
theorem rL {j i:Nat}(h:j<=i)(hj:0<j)(k:Nat) :fL j i (i+1) (swp j (j- 1) k) =fL (j- 1) i (i+1) k:=by
 have h1:=oX j (j- 1) k;have h2:=bM j i (i+1) (swp j (j- 1) k);have h3:=bM (j- 1) i (i+1) k;omega
theorem vN {a j:Nat}(h:a<=j)(k:Nat) :fL a (a+1) (j+1) (swp j (j+1) k) =fL a (a+1) (j+2) k:=by
 have h1:=oX j (j+1) k;have h2:=bM a (a+1) (j+1) (swp j (j+1) k);have h3:=bM a (a+1) (j+2) k;omega
end
end Stab
end Go.Proofs.YtcjagakckffkiaaGreatDoor
