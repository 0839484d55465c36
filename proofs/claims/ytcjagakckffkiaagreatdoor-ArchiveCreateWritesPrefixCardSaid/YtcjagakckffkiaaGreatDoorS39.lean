import Derived.Test.YtcjagakckffkiaaGreatDoorS15
import Derived.Maps.AppendAt
set_option maxHeartbeats 16000000
set_option maxRecDepth 100000
namespace Go.Proofs.YtcjagakckffkiaaGreatDoor
section
open Go.RowKit
def fU (w:World)(S:Nat->Prop)(m:Nat)(ys:List Int)(F:Int)(cs:List Int)(r:Nat) :Prop:=
 ∃da dc sa sc,an w m 110 [.slice sa cs.length sc,.int .i64 F,.slice da ys.length dc,.int .i64 r]/\w.ownsRow 0 5 1 (.slice da ys.length dc) ys.length (ys.map (.int .u8))/\Bytes ys/\eH .i64 w sa cs/\cs.length<=1000/\ys.length<=100000000/\
  S m/\ (∀k,S k->k<w.heap.size)/\ (∀x,da=some x->S x.block/\x.block≠m)/\ (∀x,sa=some x->S x.block/\x.block≠m/\∀y,da=some y->x.block≠y.block)/\r<=ys.length/\ (0<=F-> (ys.length:Int)<=F)
theorem Ek {a:Option Addr}{n c k:Nat}(h: (Value.slice a n c).ownBlock=some k) :∃x,a=some x/\x.block=k:=by
 cases a with
 |none=>cases h
 |some x=>exact⟨x,rfl,by simpa [Value.ownBlock]using h⟩
theorem kA {S:Nat->Prop}{w w':World}{base n c:Nat}{e:TypeId}{a:Option Addr}{xs:List Value}(h:w.ownsRow base e 1 (.slice a n c) n xs)(ho:aZ S w w')(hb:∀x,a=some x->¬S x.block) :w'.ownsRow base e 1 (.slice a n c) n xs:=by
 obtain⟨h1,h2⟩:=h;refine⟨h1,h2.imp id ?_⟩;rintro⟨g,cap,cur,hv,hbg,hg,r⟩
 have hlt:g<w.heap.size:=by
  rcases Nat.lt_or_ge g w.heap.size with hl|hl
  ·exact hl
  ·rw[Array.getElem?_eq_none hl]at hg;cases hg
 have ha:a=some ⟨g,0,none⟩:=by simp only[Value.slice.injEq]at hv;exact hv.1
 exact⟨g,cap,cur,hv,hbg,(ho.block g hlt (hb _ ha)).trans hg,r⟩
theorem fU.only {w w':World}{S T:Nat->Prop}{m:Nat}{ys cs:List Int}{F:Int}{r:Nat}(h:fU w S m ys F cs r)(ho:aZ T w w')(hd:∀k,S k->¬T k) :fU w' S m ys F cs r:=by
 obtain⟨da,dc,sa,sc,h1,h2,h3,h4,h5,h6,h7,h8,h9,h10,h11⟩:=h;exact⟨da,dc,sa,sc,h1.only ho (hd _ h7),kA h2 ho (fun x hx=>hd _ (h9 x hx).1),h3,h4.only ho (fun x hx=>hd _ (h10 x hx).1),h5,h6,h7,fun k hk=>Nat.lt_of_lt_of_le (h8 k hk) ho.size,h9,h10,h11⟩
theorem fU.lt {w:World}{S:Nat->Prop}{m:Nat}{ys cs:List Int}{F:Int}{r:Nat}(h:fU w S m ys F cs r) :∀k,S k->k<w.heap.size:=by
 obtain⟨_,_,_,_,_,_,_,_,_,_,_,h8,_⟩:=h;exact h8
theorem fU.me {w:World}{S:Nat->Prop}{m:Nat}{ys cs:List Int}{F:Int}{r:Nat}(h:fU w S m ys F cs r) :S m:=by
 obtain⟨_,_,_,_,_,_,_,_,_,_,h7,_⟩:=h;exact h7
theorem fU.bytes {w:World}{S:Nat->Prop}{m:Nat}{ys cs:List Int}{F:Int}{r:Nat}(h:fU w S m ys F cs r) :Bytes ys/\ys.length<=100000000/\cs.length<=1000/\r<=ys.length/\ (0<=F-> (ys.length:Int)<=F) :=by
 obtain⟨_,_,_,_,_,_,h3,_,h5,h6,_,_,_,_,h11⟩:=h;exact⟨h3,h6,h5,h11⟩
theorem fU.below {w w':World}{S:Nat->Prop}{m:Nat}{ys cs:List Int}{F:Int}{r:Nat}(h:fU w S m ys F cs r)(hb:Below w.heap.size w w') :fU w' S m ys F cs r:=
 h.only (T:=fun _=>False) (.aW hb aj) (fun _ _ h=>h)
theorem fU.grow {w:World}{S T:Nat->Prop}{m:Nat}{ys cs:List Int}{F:Int}{r:Nat}(h:fU w S m ys F cs r)(hST:∀k,S k->T k)(hT:∀k,T k->k<w.heap.size) :fU w T m ys F cs r:=by
 obtain⟨da,dc,sa,sc,h1,h2,h3,h4,h5,h6,h7,h8,h9,h10,h11⟩:=h;exact⟨da,dc,sa,sc,h1,h2,h3,h4,h5,h6,hST _ h7,hT,fun x hx=>⟨hST _ (h9 x hx).1,(h9 x hx).2⟩,fun x hx=>⟨hST _ (h10 x hx).1,(h10 x hx).2⟩,h11⟩
theorem fU.stay {w w':World}{S:Nat->Prop}{m:Nat}{ys cs:List Int}{F:Int}{r:Nat}(h:fU w S m ys F cs r)(hb:Below w.heap.size w w') :fU w' (Grow S w w') m ys F cs r/\aZ S w w':=
 ⟨(h.below hb).grow (fun _ hk=> .inl hk) (fun k hk=>hk.elim (fun hk=>Nat.lt_of_lt_of_le (h.lt k hk) hb.size) (fun h=>h.2)),.aW hb aj⟩
theorem od {P:Program}{w:World}(t ty e:TypeId)(k:IntKind)(B:Nat)(hT:P.underlying t=some (.slice e))(hI:kN P e k B)
 (a:Option Addr)(n cap:Nat)(zs:List Int)(hown:w.ownsRow 0 e 1 (.slice a n cap) n (zs.map (.int k)))
 (b:Option Addr)(m c:Nat)(ys:List Int)(hy:eH k w b ys)(hl:ys.length=m)(h63:n+m<=maxLen)(h47: (n+m) *B<=140737488355328) :
 ∃a' c' w',(Builtin.append_ #[t,t] ty #[.slice a n cap,.slice b m c]).run P w= .ok (.slice a' (n+m) c') w'/\w'.ownsRow 0 e 1 (.slice a' (n+m) c') (n+m) ((zs++ys).map (.int k))/\
  (aZ (fun q=>∃x,a=some x/\x.block=q) w w')/\∀x,a'=some x-> (∃y,a=some y/\y.block=x.block)\/ (w.heap.size<=x.block/\x.block<w'.heap.size) :=by
 obtain⟨i0,h1,h2,h3,h4⟩:=hI;rcases hy with hy|⟨b',off,rfl,_,hy⟩
 ·subst hy;obtain rfl:m=0:=hl.symm;refine⟨a,cap,w,cJ (P:=P) w 0 t ty e i0 1 hT h1 _ n _ hown b c,by simpa using hown,aZ.refl _ _,fun x hx=> .inl ⟨x,hx,rfl⟩⟩
 ·obtain⟨v',w',hr,ho,hg,_,hw⟩:=run_append_own_at (P:=P) w 0 t ty e i0 (.int k 0) 1 B hT h1 h2 h3 h4 rfl (by decide) (.slice a n cap) n _ hown ⟨b',off,none⟩ m c (ys.map (.int k)) (by rw[List.length_map,hl,Nat.mul_one]) (Cm hy) (eK _ _) h63 h47 (Nat.zero_le _);rw[<- List.map_append]at ho;obtain⟨a',c',rfl,_,_,_,_,hlt⟩:=bj ho;refine⟨a',c',w',hr,ho,⟨hg.os,hg.tape,hg.output,hg.size,fun q hq hn=>hg.block q hq fun he=>hn ?_⟩,fun x hx=>?_⟩
  ·obtain⟨x,h1,h2⟩:=Ek he.symm;exact⟨x,h1,h2⟩
  ·subst hx;have hx:= (hlt x rfl).2.1;rcases hw with hw|hw
   ·obtain⟨y,h1,h2⟩:=Ek (hw.symm.trans (show(Value.slice (some x) (n+m) c').ownBlock=some x.block from rfl));exact .inl ⟨y,h1,h2⟩
   ·have h3:x.block=w.heap.size:=by simpa [Value.ownBlock]using hw
    exact .inr ⟨by omega,hx⟩
theorem nD {P:Program}{w:World}{ops:Array Oper}{o:Oper}{act:Act}{Q:Exit->Act->World->Prop}{K:Act->World->Prop}{E:Prop}(hgd:o.guard=none)(s x:Operand)(t:TypeId)
 (ho:o.op= .call {callee:= .builtin .append,args:= #[s,x],argTypes:= #[t,t]})
 (e:TypeId)(k:IntKind)(B:Nat)(hT:P.underlying t=some (.slice e))(hI:kN P e k B)(w0:World)(h0:Below w0.heap.size w0 w)
 (a:Option Addr)(n cap:Nat)(zs:List Int)(hs:act.eval s= .slice a n cap)(hown:w0.ownsRow 0 e 1 (.slice a n cap) n (zs.map (.int k)))
 (b:Option Addr)(m c:Nat)(ys:List Int)(hx:act.eval x= .slice b m c)(hy:eH k w0 b ys)(hl:ys.length=m)(h63:n+m<=maxLen)(h47: (n+m) *B<=140737488355328)
 (h:∀a' c' w',w'.ownsRow 0 e 1 (.slice a' (n+m) c') (n+m) ((zs++ys).map (.int k))->aZ (fun q=>∃x,a=some x/\x.block=q) w0 w'-> (∀x,a'=some x-> (∃y,a=some y/\y.block=x.block)\/ (w0.heap.size<=x.block/\x.block<w'.heap.size))->K (act.put o.dst (.slice a' (n+m) c')) w') :
 if Region.wanted o (yielded ops act.tmps) =true then Oper.wp P o act w K Q else E:=by
 have hw:Region.wanted o (yielded ops act.tmps) =true:=by simp[Region.wanted,hgd]
 rw[if_pos hw];have h00:aZ (fun _=>False) w0 w:= .aW h0 aj;obtain⟨a',c',w',hr,h1,h2,h3⟩:=od (P:=P) (w:=w) t o.type e k B hT hI a n cap zs (kA hown h00 (fun _ _ h=>h)) b m c ys (hy.below h0) hl h63 h47;unfold Oper.wp;simp[execOp,ho,resolve,invoke,builtin,hs,hx,hr,Result.andThen];exact h _ _ _ h1 ((h00.mono (fun _ _ h=>h.elim)).trans h2) fun x hx=> (h3 x hx).imp id fun h=>⟨Nat.le_trans h0.size h.1,h.2⟩
def jY (w:World)(S:Nat->Prop)(q m:Nat)(ys:List Int)(F:Int)(o:Nat)(err:Int) :Prop:=
 ∃S' cs r,an w q 167 [.int .i64 o,.int .i64 err,.pointer (some ⟨m,0,none⟩)]/\fU w S' m ys F cs r/\ (∀k,S' k->S k)/\S q/\¬S' q/\ (∀k,S k->k<w.heap.size)/\o<=ys.length
theorem jY.only {w w':World}{S T:Nat->Prop}{q m:Nat}{ys:List Int}{F:Int}{o:Nat}{err:Int}(h:jY w S q m ys F o err)(ho:aZ T w w')(hd:∀k,S k->¬T k) :jY w' S q m ys F o err:=by
 obtain⟨S',cs,r,h1,h2,h3,h4,h5,h6,h7⟩:=h;exact⟨S',cs,r,h1.only ho (hd _ h4),h2.only ho (fun k hk=>hd _ (h3 k hk)),h3,h4,h5,fun k hk=>Nat.lt_of_lt_of_le (h6 k hk) ho.size,h7⟩
theorem jY.below {w w':World}{S:Nat->Prop}{q m:Nat}{ys:List Int}{F:Int}{o:Nat}{err:Int}(h:jY w S q m ys F o err)(hb:Below w.heap.size w w') :jY w' S q m ys F o err:=
 h.only (T:=fun _=>False) (.aW hb aj) (fun _ _ h=>h)
theorem jY.lt {w:World}{S:Nat->Prop}{q m:Nat}{ys:List Int}{F:Int}{o:Nat}{err:Int}(h:jY w S q m ys F o err) : (∀k,S k->k<w.heap.size)/\S q/\o<=ys.length:=by
 obtain⟨_,_,_,_,_,_,h4,_,h6,h7⟩:=h;exact⟨h6,h4,h7⟩
theorem jY.grow {w:World}{S T:Nat->Prop}{q m:Nat}{ys:List Int}{F:Int}{o:Nat}{err:Int}(h:jY w S q m ys F o err)(hST:∀k,S k->T k)(hT:∀k,T k->k<w.heap.size) :jY w T q m ys F o err:=by
 obtain⟨S',cs,r,h1,h2,h3,h4,h5,_,h7⟩:=h;exact⟨S',cs,r,h1,h2,fun k hk=>hST _ (h3 k hk),hST _ h4,h5,hT,h7⟩
theorem jY.sink {w:World}{S:Nat->Prop}{q m:Nat}{ys:List Int}{F:Int}{o:Nat}{err:Int}(h:jY w S q m ys F o err) :∃S' cs r,fU w S' m ys F cs r/\ (∀k,S' k->S k)/\¬S' q:=by
 obtain⟨S',cs,r,_,h2,h3,_,h5,_⟩:=h;exact⟨S',cs,r,h2,h3,h5⟩
theorem jY.stay {w w':World}{S:Nat->Prop}{q m:Nat}{ys:List Int}{F:Int}{o:Nat}{err:Int}(h:jY w S q m ys F o err)(hb:Below w.heap.size w w') :jY w' (Grow S w w') q m ys F o err/\aZ S w w':=
 ⟨(h.below hb).grow (fun _ hk=> .inl hk) (fun k hk=>hk.elim (fun hk=>Nat.lt_of_lt_of_le (h.lt.1 k hk) hb.size) (fun h=>h.2)),.aW hb aj⟩
theorem jY.wide {w w2 w':World}{S:Nat->Prop}{q m:Nat}{ys:List Int}{F:Int}{o:Nat}{err:Int}(h:jY w' (Grow S w2 w') q m ys F o err)(hw:w.heap.size<=w2.heap.size)(hS:∀k,S k->k<w.heap.size)(hz:w2.heap.size<=w'.heap.size) :jY w' (Grow S w w') q m ys F o err:=
 h.grow (fun k hk=>hk.imp id (fun h=>⟨Nat.le_trans hw h.1,h.2⟩)) (fun k hk=>hk.elim (fun h=>by have:=hS k h;omega) (fun h=>h.2))
theorem BV {S:Nat->Prop}{m:Nat}{ys cs:List Int}{F:Int}{r:Nat}(w:World)(h:fU w S m ys F cs r) :
 Calls Tryz.prog 50 #[.pointer (some ⟨m,0,none⟩)] w fun e w'=>∃q,e= .returned (.pointer (some ⟨q,0,none⟩))/\jY w' (Grow S w w') q m ys F 0 0/\Below w.heap.size w w':=by
 have H:=aa h;clear h;go_enter Tryz.func50,Tryz.ntmps50;go_wp2_with (first| (refine af rfl 167 _ rfl [.int .i64 0,.int .i64 0,.pointer (some ⟨m,0,none⟩)] rfl ?_;intro w1 h1 b1;have H1:=aa h1;have B1:=aa b1;clear h1 b1));go_ret;have l1:=H1.out.lt;have hs:=H.out.lt;refine⟨w.heap.size,rfl,⟨S,cs,r,H1.out,H.out.below B1.out,fun k hk=> .inl hk,.inr ⟨aj,l1⟩,fun h=>by have:=hs _ h;simp at this,fun k hk=>hk.elim (fun hk=>by have:=hs k hk;omega) (fun h=>h.2),Nat.zero_le _⟩,B1.out⟩
theorem tl (v:Value)(w:World) :Calls Tryz.prog 212 #[.pointer none,v] w fun e w'=>e= .returned (.tuple #[.int .i64 0,.int .i64 1])/\w=w':=by
 go_enter Tryz.func212,Tryz.ntmps212;go_wp2;go_ret2;exact⟨rfl,rfl⟩
theorem Ez (a:Option Addr)(n c:Nat)(w:World) :Calls Tryz.prog 187 #[.pointer none,.slice a n c] w fun e w'=>e= .returned (.int .i64 1)/\w=w':=by
 go_enter Tryz.func187,Tryz.ntmps187;go_wp2_with fail;go_loopw [1,5,6,7] (fun v _ _ _ wr=>v= .slice a n c/\wr=w) (fun _ _ _ _ _=>0)
 case atStart=>exact⟨rfl,rfl⟩
 case round=>
  obtain⟨rfl,rfl⟩:=hrel;go_wp2_with fail;refine(tl _ _).mono ?_;rintro e w2 ⟨rfl,rfl⟩;go_wp2_with fail;go_ret;exact⟨rfl,rfl⟩
theorem jQ {S:Nat->Prop}{m:Nat}{ys cs:List Int}{F:Int}{r:Nat}(w:World)(h:fU w S m ys F cs r) :
 Calls Tryz.prog 25 #[.pointer (some ⟨m,0,none⟩)] w fun e w'=>e= .returned (.int .i64 ys.length)/\w=w':=by
 obtain⟨da,dc,sa,sc,h1,h2,h3,h4,h5,h6,h7,h8,h9,h10,h11⟩:=h;have c2:=h1.get 2 rfl;have h6': (ys.length:Int)<=100000000:=by omega
 go_enter Tryz.func25,Tryz.ntmps25;go_wp2;go_ret;exact⟨rfl,rfl⟩
theorem Dp {w:World}{a:Option Addr}{n c base:Nat}{e:TypeId}{k:IntKind}{zs:List Int}(h:w.ownsRow base e 1 (.slice a n c) n (zs.map (.int k))) :eH k w a zs:=by
 obtain⟨b,c',hv,h1,_⟩:=bj h;simp only[Value.slice.injEq,true_and]at hv;rw[hv.1];exact h1
theorem gJ {S:Nat->Prop}{m:Nat}{ys cs:List Int}{F:Int}{r:Nat}(w:World)(h:fU w S m ys F cs r) :
 Calls Tryz.prog 26 #[.pointer (some ⟨m,0,none⟩)] w fun e w'=>∃v,e= .returned v/\w'.ownsRow w.heap.size 5 1 v ys.length (ys.map (.int .u8))/\Below w.heap.size w w':=by
 obtain⟨da,dc,sa,sc,h1,h2,h3,h4,h5,(H6:Hid _),h7,h8,h9,h10,h11⟩:=h;have c2:=h1.get 2 rfl;have HI:=aa (Dp h2);go_enter Tryz.func26,Tryz.ntmps26;go_wp2_with fail;refine(kf da ys.length dc ys w HI.out rfl (by have:=H6.out;omega)).mono ?_;rintro e w2 ⟨v2,rfl,(O2:Hid _),(B2:Hid _)⟩;go_wp2_with fail;go_ret;exact⟨_,rfl,O2.out,B2.out⟩
def lg (F:Int)(L:Nat) :Int:=if F<0 then 9223372036854775807 else F- L
theorem kF {S:Nat->Prop}{m:Nat}{ys cs:List Int}{F:Int}{r:Nat}(w:World)(h:fU w S m ys F cs r)(hF:F<=9223372036854775807) :
 Calls Tryz.prog 237 #[.pointer (some ⟨m,0,none⟩)] w fun e w'=>e= .returned (.int .i64 (lg F ys.length))/\Below w.heap.size w w':=by
 have H:=aa h;obtain⟨da,dc,sa,sc,h1,h2,h3,h4,h5,(H6:Hid _),h7,h8,h9,h10,h11,h12⟩:=h;have c1:=h1.get 1 rfl;have HL:Hid (0<=F-> (ys.length:Int)<=F) :=h12;by_cases h0:F<0
 ·have e1:lg F ys.length=9223372036854775807:=if_pos h0;rw[e1];go_enter Tryz.func237,Tryz.ntmps237;go_wp2;go_ret;exact⟨rfl,au⟩
 ·have e1:lg F ys.length=F- ys.length:=if_neg h0;rw[e1];obtain⟨L,hL⟩:=named ys.length;have hl: (L:Int)<=F:=by rw[hL.out];exact HL.out (by omega)
  rw[<- hL.out];go_enter Tryz.func237,Tryz.ntmps237;go_wp2_with fail;have NC:Hid (∀w':World,fU w' S m ys F cs r->Calls Tryz.prog 25 #[.pointer (some ⟨m,0,none⟩)] w' fun e w''=>e= .returned (.int .i64 L)/\w''=w') :=fun w' hs=> (jQ w' hs).mono fun e w'' ⟨h1,h2⟩=>⟨by rw[h1,hL.out],h2.symm⟩;go_quiet ((go_at_call 25;refine Calls.quiet_of_same (NC.out _ H.out)));go_wp2;go_ret;exact⟨rfl,aS _ _ _⟩
theorem te {S:Nat->Prop}{m:Nat}{ys cs:List Int}{F:Int}{r:Nat}(w:World)(h:fU w S m ys F cs r) :
 Calls Tryz.prog 238 #[.pointer (some ⟨m,0,none⟩)] w fun e w'=>e= .returned (.int .i64 (cY cs r))/\Below w.heap.size w w':=by
 have H:=aa h;obtain⟨da,dc,sa,sc,h1,h2,h3,h4,h5,h6,h7,h8,h9,h10,h11,h12⟩:=h;have HI:=aa h4;have HL:=aa h5;have c0:=h1.get 0 rfl;have c3:=h1.get 3 rfl;clear h1 h2 h3 h4 h5 h6 h7 h8 h9 h10 h11 h12;by_cases hz:cs.length=0
 ·have HZ:=aa hz;rw[hz]at c0;clear hz;go_enter Tryz.func238,Tryz.ntmps238;go_wp2;go_ret;refine⟨?_,au⟩;unfold cY;rw[if_pos HZ.out];rfl
 ·obtain⟨L,hL⟩:=named cs.length;obtain⟨i,hI⟩:=named (r % cs.length);obtain⟨d,hd⟩:=named (cs.getD i 0);have hlt:i<cs.length:=by rw[hI.out];exact Nat.mod_lt _ (by omega)
  obtain⟨b,off,rfl,hb⟩:=HI.out.plain (by omega);have hck:Hid (cY cs r=max d 1) :=by show _=_;unfold cY;rw[if_neg hz,hd.out,hI.out]
  have cd:=HI.out.get i hlt;rw[<- hd.out]at cd;have hmod: (r:Int) % (L:Int) = (i:Int) :=by rw[hI.out,hL.out];omega
  have hlt': (i:Int) <L:=by rw[hL.out];omega
  have hL0:¬L=0:=by rw[hL.out];exact hz
  rw[<- hL.out]at c0;clear hz hlt;go_enter Tryz.func238,Tryz.ntmps238;go_wp2_with fail;have hr:Hid (Below w.heap.size w w) :=au;by_cases DX:1<=d
  ·have HKd:Hid (cY cs r=d) :=by show _=_;rw[hck.out];omega
   have fin:∀nq,Below w.heap.size w (w.drewN nq) :=fun nq=>aS _ _ _;have FIN:=aa fin;clear fin;have hmx:max d 1=d:=by omega
   go_region
   all_goals (go_wp2;go_ret;exact⟨by rw[HKd.out];rfl,FIN.out _⟩)
  ·have HKd:Hid (cY cs r=1) :=by show _=_;rw[hck.out];omega
   have fin:∀nq,Below w.heap.size w (w.drewN nq) :=fun nq=>aS _ _ _;have FIN:=aa fin;clear fin;have hmx:max d 1=1:=by omega
   go_region
   all_goals (go_wp2;go_ret;exact⟨by rw[HKd.out];rfl,FIN.out _⟩)
theorem fU.step {w w4:World}{S:Nat->Prop}{m:Nat}{ys cs:List Int}{F:Int}{r:Nat}{da:Option Addr}{dc:Nat}{sa:Option Addr}{sc:Nat}
 (h1:an w m 110 [.slice sa cs.length sc,.int .i64 F,.slice da ys.length dc,.int .i64 r])(h3:Bytes ys)(h4:eH .i64 w sa cs)(h5:cs.length<=1000)(h7:S m)(h8:∀k,S k->k<w.heap.size)
 (h9:∀x,da=some x->S x.block/\x.block≠m)(h10:∀x,sa=some x->S x.block/\x.block≠m/\∀y,da=some y->x.block≠y.block)(h11:r<=ys.length)
 {k:Nat}(xs:List Int)(hx:xs.length=k)(hk:1<=k)(hxb:Bytes xs)(hy:ys.length+k<=100000000)(hF:0<=F-> ((ys.length+k:Nat) :Int)<=F)(a':Option Addr)(c':Nat)
 (ho:w4.ownsRow 0 5 1 (.slice a' (ys.length+k) c') (ys.length+k) ((ys++xs).map (.int .u8)))(hO:aZ (fun q=>∃x,da=some x/\x.block=q) w w4)
 (hw:∀x,a'=some x-> (∃y,da=some y/\y.block=x.block)\/ (w.heap.size<=x.block/\x.block<w4.heap.size))(w5:World)
 (e5:w5= (w4.setCell ⟨m,2,none⟩ (.slice a' (ys.length+k) c')).setCell ⟨m,3,none⟩ (.int .i64 (r+1))) :
 fU w5 (Grow S w w5) m (ys++xs) F cs (r+1)/\aZ S w w5:=by
 have hlt:=h1.lt;have hsz:w5.heap.size=w4.heap.size:=by rw[e5];simp[World.setCell]
 have hly: (ys++xs).length=ys.length+k:=by rw[List.length_append,hx]
 have hOs:aZ S w w4:=hO.mono fun q _ ⟨x,h1,h2⟩=>h2▸(h9 x h1).1
 have hne:∀x,a'=some x->x.block≠m:=fun x hx=>by
  rcases hw x hx with⟨y,h1,h2⟩|h
  ·rw[<- h2];exact(h9 y h1).2
  ·omega
 have o1:an w4 m 110 [.slice sa cs.length sc,.int .i64 F,.slice da ys.length dc,.int .i64 r] :=h1.only hO (by rintro⟨x,h1,h2⟩;exact(h9 x h1).2 h2);have i4:eH .i64 w4 sa cs:=h4.only hO (by rintro x hx ⟨y,h1,h2⟩;exact(h10 x hx).2.2 y h1 h2.symm);refine⟨⟨a',c',sa,sc,?_,?_,h3.append hxb,?_,h5,by rw[hly];exact hy,.inl h7,fun q hq=>?_,fun x hx=>⟨?_,hne x hx⟩,fun x hx=>⟨.inl (h10 x hx).1,(h10 x hx).2.1,fun y hy=>?_⟩,by rw[hly];omega,by rw[hly];exact hF⟩,?_⟩
 ·rw[e5,hly];exact(o1.set 2 _).set 3 _
 ·rw[e5,hly];have c1:aZ (fun q=>q=m) w4 ((w4.setCell ⟨m,2,none⟩ (.slice a' (ys.length+k) c')).setCell ⟨m,3,none⟩ (.int .i64 (r+1))) := ((aZ.refl (fun q=>q=m) w4).setCell (p:=⟨m,2,none⟩) (.inl rfl) _).setCell (p:=⟨m,3,none⟩) (.inl rfl) _;exact kA ho c1 hne
 ·rw[e5];exact(i4.set _ (fun x hx=> (h10 x hx).2.1)).set _ (fun x hx=> (h10 x hx).2.1)
 ·rcases hq with hq|hq
  ·have:=h8 q hq;have:=hO.size;omega
  ·exact hq.2
 ·rcases hw x hx with⟨y,h1,h2⟩|h
  ·rw[<- h2];exact .inl (h9 y h1).1
  ·exact .inr ⟨h.1,by omega⟩
 ·rcases hw y hy with⟨z,h1,h2⟩|h
  ·rw[<- h2];exact(h10 x hx).2.2 z h1
  ·have:=h8 _ (h10 x hx).1;omega
 ·rw[e5];exact(hOs.setCell (.inl h7) _).setCell (.inl h7) _
theorem vS {S:Nat->Prop}{m:Nat}{ys cs:List Int}{F:Int}{r:Nat}(a:Option Addr)(n cap:Nat)(bs:List Int)(w:World)(h:fU w S m ys F cs r)(hb:BytesIn w a bs)(hl:bs.length=n)(hnc:n<=cap)(hn:ys.length+n<=100000000)(hF:F<=9223372036854775807) :
 Calls Tryz.prog 212 #[.pointer (some ⟨m,0,none⟩),.slice a n cap] w fun e w'=>e= .returned (.tuple #[.int .i64 (kM cs F ys.length r n),.int .i64 (zB F ys.length n)])/\
  fU w' (Grow S w w') m (ys++bs.take (kM cs F ys.length r n)) F cs (DD F ys.length r n)/\aZ S w w':=by
 have H:=aa h;by_cases h0:n=0
 ·subst h0;have e1:kM cs F ys.length r 0=0:=if_pos (.inl rfl);have e2:zB F ys.length 0=0:=if_pos rfl;have e3:DD F ys.length r 0=r:=if_pos (.inl rfl);rw[e1,e2,e3,List.take_zero,List.append_nil];clear h hb hl e1 e2 e3;go_enter Tryz.func212,Tryz.ntmps212;go_wp2;go_ret2;exact⟨rfl,H.out.stay au⟩
 ·have hn0: ((n:Int) ==0) =false:=by simp;omega
  have HB:=aa hb;have HL:=aa hl;have hfl:=h.bytes.2.2.2.2;have HFL:Hid (0<=F-> (ys.length:Int)<=F) :=hfl;clear h hb hl hfl;by_cases hf:full F ys.length
  ·have e1:kM cs F ys.length r n=0:=if_pos (.inr hf);have e2:zB F ys.length n=11:=by unfold zB;rw[if_neg h0,if_pos hf]
   have e3:DD F ys.length r n=r:=if_pos (.inr hf);have e4:lg F ys.length=0:=by unfold lg;unfold full at hf;rw[if_neg (by omega)];omega
   rw[e1,e2,e3,List.take_zero,List.append_nil];have E4:=aa e4;clear e1 e2 e3 e4 hf;go_enter Tryz.func212,Tryz.ntmps212;go_wp2_with fail;refine(kF w H.out hF).mono ?_;rintro e w2 ⟨rfl,b2⟩;rw[E4.out];have B2:=aa b2;clear b2;go_wp2_with fail;go_ret2;exact⟨rfl,H.out.stay B2.out⟩
  ·have hnf:¬(n=0\/full F ys.length) :=fun h=>h.elim h0 hf;have hkp:=lN (cs:=cs) (r:=r) h0 hf HFL.out;have e2:zB F ys.length n=0:=by unfold zB;rw[if_neg h0,if_neg hf]
   have e3:DD F ys.length r n=r+1:=if_neg hnf;obtain⟨k,hk⟩:=named (kM cs F ys.length r n);have hkn:=qp cs F ys.length r n;have hkf:Hid (0<=F-> ((ys.length+k:Nat) :Int)<=F) :=by show _->_;intro h;rw[hk.out];exact lM h (HFL.out h)
   rw[<- hk.out]at hkp hkn;rw[<- hk.out,e2,e3];obtain⟨C,hC⟩:=named (cY cs r);obtain⟨R,hR⟩:=named (lg F ys.length)
   have HK:Hid (min (min (n:Int) C) R=k) :=by
    show _=_;rw[hk.out,hC.out,hR.out];unfold kM lg;rw[if_neg hnf];have:=HFL.out;have:=gz cs r
    split<;>split<;>omega
   have hR0: (R==0) =false:=by
    have:R≠0:=by
     rw[hR.out];unfold lg;unfold full at hf
     split<;>omega
    simpa using this
   clear e2 e3 hnf hf;go_enter Tryz.func212,Tryz.ntmps212;go_wp2_with fail;refine(kF w H.out hF).mono ?_;rintro e w1 ⟨rfl,b1⟩;rw[<- hR.out];have H1:=aa (H.out.below b1);have B1:=aa b1;clear b1;go_wp2_with fail;refine(te w1 H1.out).mono ?_;rintro e w2 ⟨rfl,b2⟩;rw[<- hC.out];have H2:=aa (H1.out.below b2);have B2:=aa (B1.out.trans (b2.mono B1.out.size));clear b2;go_wp2_with fail;refine(kF w2 H2.out hF).mono ?_;rintro e w3 ⟨rfl,b3⟩;rw[<- hR.out];have B3:=aa (B2.out.trans (b3.mono B2.out.size));obtain⟨da,dc,sa,sc,h1,h2,h3,h4,h5,h6,h7,h8,h9,h10,h11,h12⟩:=H2.out.below b3;clear b3;obtain⟨L,hL⟩:=named ys.length;have X3:=aa (HB.out.below B3.out);have T3:=aa h1;have O3:=aa h2;have N3:=aa h9;have c2:=h1.get 2 rfl;rw[<- hL.out]at c2 hn;have XL:Hid ((bs.take k).length=k) :=by show _=_;rw[List.length_take,HL.out];omega
   have kc: (k:Int)<=cap:=by omega
   have kc':k<=cap:=by omega
   have r1: (r:Int)<=100000000:=by omega
   have H3:=aa h3;have H4:=aa h4;have H5:=aa h5;have H7:=aa h7;have H8:=aa h8;have H10:=aa h10;have H11:=aa h11;have HKN:=aa hkn;have HKP:=aa hkp;clear h1 h2 h3 h4 h5 h6 h7 h8 h9 h10 h11 h12 hkp hkn;go_wp2_with (refine lu rfl _ _ _ _ rfl .i64 .i64 .i64 n C R k rfl rfl rfl HK.out ?_);have ON:Hid (w3.ownsRow 0 5 1 (.slice da L dc) L (ys.map (.int .u8))) :=by show World.ownsRow _ _ _ _ _ _ _;rw[hL.out];exact O3.out
   have KN:Hid (L+k<=100000000) :=by show _<=_;have:=HKN.out;omega
   go_region_law (first| (refine nD rfl (.tmp 29) (.tmp 32) 25 rfl 5 .u8 1 Tryz.underlying25 Ct w3 (by repeat (first|exact au|exact aS _ _ _|refine Below.drew ?_|refine Below.trans ?_ (aS _ _ _))) da L dc ys rfl ON.out a k cap (bs.take k) rfl (X3.out.take k).vv XL.out (by have:=KN.out;unfold maxLen;omega) (by have:=KN.out;omega) ?_;intro a4 c4 w4 h4 o4 x4;have O4:=aa h4;have Q4:=aa o4;have X4:=aa x4;have T4:=aa (T3.out.only o4 (by rintro⟨x,h1,h2⟩;exact(N3.out x h1).2 h2));have g2:=T4.out.get 2 rfl;have g3:=T4.out.get 3 rfl;have f2:=T4.out.frozen 2;have f3:=T4.out.frozen 3;clear h4 o4 x4))
   all_goals
    go_wp2;go_ret2;have st:=fU.step T3.out H3.out H4.out H5.out H7.out H8.out N3.out H10.out H11.out (bs.take k) XL.out HKP.out (HB.out.bytes.take k) (by rw[<- hL.out];exact KN.out) (by rw[hL.out]at*;exact hkf.out) a4 c4 (by rw[<- hL.out];exact O4.out) Q4.out X4.out _ rfl;rw[<- hL.out]at st;have z:=B3.out.size;exact⟨rfl,st.1.grow (fun q hq=>hq.imp id fun hq=>⟨by omega,hq.2⟩) (fun q hq=>hq.elim (fun hq=>st.1.lt q (.inl hq)) (fun hq=>hq.2)),(aZ.aW B3.out aj).trans st.2⟩
theorem aZ.Cg {S:Nat->Prop}{a b c:World}(h:aZ S a b)(k:aZ (Grow S a b) b c) :aZ S a c:=
 ⟨k.os.trans h.os,k.tape.trans h.tape,k.output.trans h.output,Nat.le_trans h.size k.size,fun i hi hj=> (k.block i (Nat.lt_of_lt_of_le hi h.size) (by rintro(h|h);exact hj h;omega)).trans (h.block i hi hj)⟩
theorem mA {S:Nat->Prop}{a b c:World}(h1:a.heap.size<=b.heap.size)(h2:b.heap.size<=c.heap.size) :∀k,Grow (Grow S a b) b c k->Grow S a c k:=by
 rintro k ((h|h) |h)
 ·exact .inl h
 ·exact .inr ⟨h.1,by omega⟩
 ·exact .inr ⟨by omega,h.2⟩
theorem qZ {S:Nat->Prop}{a b:World}(hs:∀k,S k->k<a.heap.size)(h:a.heap.size<=b.heap.size) :∀k,Grow S a b k->k<b.heap.size:=by
 rintro k (h'|h')
 ·have:=hs k h';omega
 ·exact h'.2
theorem By {S:Nat->Prop}{m:Nat}{ys cs:List Int}{F:Int}{r:Nat}(a:Option Addr)(n cap:Nat)(bs:List Int)(w:World)(h:fU w S m ys F cs r)(hb:BytesIn w a bs)(hl:bs.length=n)(hnc:n<=cap)(hn:ys.length+n<=100000000)(hF:F<=9223372036854775807)
 (hd:∀x,a=some x->bs= []\/¬S x.block) :
 Calls Tryz.prog 187 #[.pointer (some ⟨m,0,none⟩),.slice a n cap] w fun e w'=>e= .returned (.int .i64 (eg F ys.length n))/\
  fU w' (Grow S w w') m (ys++bs.take (df F ys.length n)) F cs (iM cs F n ys.length r n)/\aZ S w w':=by
 have H0:=aa (h.stay au);have HB:=aa hb;have HL:=aa hl;have HS:=aa h.lt;obtain⟨L,hL⟩:=named ys.length;obtain⟨K,hK⟩:=named (df F L n);obtain⟨E,hE⟩:=named (eg F L n);obtain⟨R,hR⟩:=named (iM cs F n L r n);rw[<- hL.out]at hn⊢;rw[<- hK.out,<- hE.out,<- hR.out];have HD:Hid (∀b off,a=some ⟨b,off,none⟩->b<w.heap.size->bs= []\/¬S b) :=fun b off hx _=>hd _ hx;clear h hb hl hd;go_enter Tryz.func187,Tryz.ntmps187;go_wp2_with fail
 go_loopw [1,5,6,7] (fun v _ _ _ wr=>∃(j:Nat) (a':Option Addr) (c' r':Nat),j<=n/\v= .slice a' (n- j) c'/\n- j<=c'/\ (bs.drop j= []\/∃b off,a'=some ⟨b,off,none⟩/\b<w.heap.size/\¬S b/\aO wr b off (bs.drop j))/\
  fU wr (Grow S w wr) m (ys++bs.take j) F cs r'/\aZ S w wr/\iM cs F (n- j) (L+j) r' (n- j) =R/\j+df F (L+j) (n- j) =K/\eg F (L+j) (n- j) =E) (fun v _ _ _ _=>match v with| .slice _ l _=>l|_=>0)
 case atStart=>
  refine⟨0,a,cap,r,Nat.zero_le _,rfl,hnc,?_,by simpa using H0.out.1,H0.out.2,hR.out.symm,by simpa using hK.out.symm,hE.out.symm⟩;rcases HB.out with h|⟨b,off,h1,h2,h3⟩
  ·left;rw[h];rfl
  ·rcases HD.out b off h1 h2 with h|h
   ·left;rw[h];rfl
   ·exact .inr ⟨b,off,h1,h2,h,h3⟩
 case round=>
  obtain⟨j,a',c',r',hj,rfl,hjc,hrow,hs,ho,e1,e2,e3⟩:=hrel;have RW:=aa hrow;have SS:=aa hs;have OO:=aa ho;have E1:=aa e1;have E2:=aa e2;have E3:=aa e3;have hlj: (ys++bs.take j).length=L+j:=by rw[List.length_append,List.length_take,HL.out,hL.out];omega
  have LJ:=aa hlj
  have HFL:Hid (0<=F-> ((L+j:Nat) :Int)<=F) :=by
   show _->_;have h12:=hs.bytes.2.2.2.2;rw[hlj]at h12;exact h12
  clear hrow hs ho e1 e2 e3 hlj;obtain⟨M,hM⟩:=named (n- j);rw[<- hM.out]at hjc⊢;have LD:Hid ((bs.drop j).length=M) :=by show _=_;rw[List.length_drop,HL.out];exact hM.out.symm
  have hnj:L+j+M<=100000000:=by have:=hM.out;omega
  have XB:Hid (BytesIn wr a' (bs.drop j)) :=by
   show BytesIn _ _ _;rcases RW.out with h|⟨b,off,h1,h2,_,h4⟩
   ·exact .inl h
   ·exact .inr ⟨b,off,h1,Nat.lt_of_lt_of_le h2 OO.out.size,h4⟩
  obtain⟨k,hk⟩:=named (kM cs F (L+j) r' M);have hkM:=qp cs F (L+j) r' M;rw[<- hk.out]at hkM;have HKM:=aa hkM;go_wp2_with fail;refine(vS a' M c' (bs.drop j) wr SS.out XB.out LD.out hjc (by rw[LJ.out];exact hnj) hF).mono ?_;rintro e w2 ⟨rfl,s2,o2⟩;rw[LJ.out,<- hk.out]at s2;rw[LJ.out,<- hk.out];have S2:=aa s2;have O2:=aa (OO.out.Cg o2);have Z2:=aa o2.size
  have RB2:Hid (bs.drop j= []\/∃b off,a'=some ⟨b,off,none⟩/\b<w.heap.size/\¬S b/\aO w2 b off (bs.drop j)) :=by
   refine RW.out.imp id ?_;rintro⟨b,off,h1,h2,h3,h4⟩;refine⟨b,off,h1,h2,h3,fun i hi=>?_,h4.2⟩;exact(World.cell?_of_block (a:=⟨b,off+i,none⟩) (o2.block b (Nat.lt_of_lt_of_le h2 OO.out.size) (by rintro(h|h);exact h3 h;omega))).trans (h4.1 i hi)
  clear s2 o2;have GG:=aa (S2.out.grow (mA OO.out.size Z2.out) (qZ HS.out O2.out.size));by_cases h0:M=0
  ·subst h0;have k0:df F (L+j) 0=0:=by unfold df;have:=HFL.out;split<;>omega
   have k1:eg F (L+j) 0=0:=by unfold eg;have:=HFL.out;rw[if_neg (by omega)]
   have k2:zB F (L+j) 0=0:=if_pos rfl;have k3:DD F (L+j) r' 0=r':=if_pos (.inl rfl);obtain rfl:k=0:=by omega
   have f1:=E1.out;have f2:=E2.out;have f3:=E3.out;rw[<- hM.out]at f1 f2 f3;rw[k0]at f2;rw[k1]at f3;have f1':r'=R:=f1;have gg:=GG.out;rw[k3,List.take_zero,List.append_nil]at gg;have GG':=aa gg;rw[k2];clear k0 k1 k2 k3 gg f1;go_wp2_with fail;go_ret;obtain rfl:j=K:=by omega
   rw[<- f3,<- f1'];exact⟨rfl,GG'.out,O2.out⟩
  ·by_cases hf:full F (L+j)
   ·have g1:zB F (L+j) M=11:=by unfold zB;rw[if_neg h0,if_pos hf]
    have g2:k=0:=by rw[hk.out];exact if_pos (.inr hf)
    have g3:DD F (L+j) r' M=r':=if_pos (.inr hf);have g4:df F (L+j) M=0:=by unfold df;unfold full at hf;rw[if_pos (by omega)];omega
    have g5:eg F (L+j) M=11:=by unfold eg;unfold full at hf;rw[if_pos (by omega)]
    have g6:iM cs F M (L+j) r' M=r':=uT cs (.inr hf);have f1:=E1.out;have f2:=E2.out;have f3:=E3.out;rw[<- hM.out]at f1 f2 f3;rw[g6]at f1;rw[g4]at f2;rw[g5]at f3;rw[g1];have gg:=GG.out;rw[g3,g2,List.take_zero,List.append_nil]at gg;have GG':=aa gg;clear g1 g2 g3 g4 g5 g6 gg hf;go_wp2_with fail;go_ret;obtain rfl:j=K:=by omega
    rw[<- f3,<- f1];exact⟨rfl,GG'.out,O2.out⟩
   ·have g1:zB F (L+j) M=0:=by unfold zB;rw[if_neg h0,if_neg hf]
    have g3:DD F (L+j) r' M=r'+1:=if_neg (fun h=>h.elim h0 hf);have g4:=uR (cs:=cs) (F:=F) (L:=L+j) (r:=r') (m:=M) HFL.out;have g6:=uS (cs:=cs) (r:=r') h0 hf HFL.out;have hkp:=lN (cs:=cs) (r:=r') h0 hf HFL.out;rw[<- hk.out]at g4 g6 hkp;have f1:=E1.out;have f2:=E2.out;have f3:=E3.out;rw[<- hM.out]at f1 f2 f3;rw[g6]at f1;rw[g4.1]at f2;rw[<- g4.2]at f3;have F1:=aa f1;have F2:=aa f2;have F3:=aa f3;rw[g1];have gg:=GG.out;have et:ys++bs.take j++ (bs.drop j).take k=ys++bs.take (j+k) :=by rw[List.append_assoc,List.take_add]
    rw[g3,et]at gg;have GG':=aa gg;have HKP:=aa hkp;clear g1 g3 g4 g6 f1 f2 f3 gg et hf hkp;by_cases hkm:k=M
    ·subst hkm;have kk0:df F (L+j+k) (k- k) =0:=by rw[Nat.sub_self];unfold df;split<;>omega
     have f1:=F1.out;have f2:=F2.out;have f3:=F3.out;rw[Nat.sub_self]at f1 f3;rw[kk0]at f2;have f1':r'+1=R:=f1
     have e0:eg F (L+j+k) 0=0:=by
      have hb:=GG'.out.bytes.2.2.2.2;have hlk: (ys++bs.take (j+k)).length=L+j+k:=by rw[List.length_append,List.length_take,HL.out,hL.out];have:=hM.out;omega
      rw[hlk]at hb;unfold eg;rw[if_neg (by omega)]
     rw[e0]at f3;clear e0 kk0 f1;go_wp2_with fail;go_ret;obtain rfl:j+k=K:=by omega
     rw[<- f3,<- f1'];exact⟨rfl,GG'.out,O2.out⟩
    ·have hkm': ((k:Int) == (M:Int)) =false:=by simp;omega
     have k3: (k:Int)<=M:=by omega
     obtain⟨b,off,rfl,hbw,hbS,hrow⟩:∃b off,a'=some ⟨b,off,none⟩/\b<w.heap.size/\¬S b/\aO w2 b off (bs.drop j) :=by
      rcases RB2.out with h|h
      ·have h1:=congrArg List.length h;rw[List.length_drop,HL.out,List.length_nil]at h1;have:=hM.out;omega
      ·exact h
     have RB:=aa hrow;have BW:=aa hbw;have BS:=aa hbS;clear hrow hbw hbS RW RB2;have kc: (k:Int)<=c':=by omega
     go_wp2_with fail;go_roundw
     case rel=>
      have em:n- (j+k) =M- k:=by have:=hM.out;omega
      have hm:=hM.out;have hkp:=HKP.out;have f1:=F1.out;have f2:=F2.out;have f3:=F3.out;rw[<- em]at f1 f2 f3⊢;rw[Nat.add_assoc]at f1 f2 f3;exact⟨j+k,_,_,r'+1,by omega,rfl,by omega,.inr ⟨b,off+k,rfl,BW.out,BS.out,by have:=RB.out.drop k;rwa [List.drop_drop]at this⟩,GG'.out,O2.out,f1,by omega,f3⟩
     case measure=>have:=HKP.out;simp;omega
end
end Go.Proofs.YtcjagakckffkiaaGreatDoor
