import Derived.Test.YtcjagakckffkiaaGreatDoorS32
set_option maxHeartbeats 16000000
set_option maxRecDepth 100000
namespace Go.Proofs.YtcjagakckffkiaaGreatDoor
namespace Reb
open Go.RowKit Go.MapKept Go.Proofs.YtcjagakckffkiaaGreatDoor.Fit Pnm Tre Flt
theorem mV {w:World}{g gd N:Nat}{T:TypeId}{vs:List Value}{d:TypeDesc}{F:Value->Option Value}(h:an w g T vs)(m:dG w gd d N F) :g≠gd:=by
 rintro rfl;obtain⟨xs,clk,m,_⟩:=m;unfold an at h;rw[h]at m
 cases m
theorem mY {w:World}{base n size gd N:Nat}{e:TypeId}{v:Value}{xs:List Value}{d:TypeDesc}{F:Value->Option Value}(h:w.ownsRow base e size v n xs)(m:dG w gd d N F) :some gd≠v.ownBlock:=by
 rcases h.2 with⟨hv,_⟩|⟨b,cap,cur,hv,_,hh,_⟩
 ·subst hv;intro h;cases h
 ·subst hv;intro h;have h:some gd=some b:=h;injection h with h;subst h;obtain⟨xs,clk,m,_⟩:=m;rw[hh]at m
  cases m
theorem mZ {w:World}{base n size g:Nat}{e T:TypeId}{v:Value}{xs vs:List Value}(h:w.ownsRow base e size v n xs)(m:an w g T vs)(hne:T≠e) :some g≠v.ownBlock:=by
 rcases h.2 with⟨hv,_⟩|⟨b,cap,cur,hv,_,hh,_⟩
 ·subst hv;intro h;cases h
 ·subst hv;intro h;have h:some g=some b:=h;injection h with h;subst h;unfold an at m;rw[hh]at m;injection m with m;injection m with _ m _;exact hne m.symm
theorem rv {w w':World}{base n size:Nat}{e:TypeId}{v:Value}{xs:List Value}(h:w.ownsRow base e size v n xs)(hk:∀k,v.ownBlock=some k->w'.heap[k]? =w.heap[k]?) :w'.ownsRow base e size v n xs:=by
 obtain⟨h1,h2⟩:=h;refine⟨h1,h2.imp id ?_⟩;rintro⟨b,cap,cur,hv,hb,hh,r⟩;exact⟨b,cap,cur,hv,hb,(hk b (by rw[hv];rfl)).trans hh,r⟩
section
variable {P:Program} {w:World} {ops:Array Oper} {o:Oper} {a:Act} {Q:Exit->Act->World->Prop} {K:Act->World->Prop} {E:Prop}
end
theorem qt.off {S:Nat->Prop}{w:World}{y:dh}(h:qt w y)(hS:∀k,S k->w.heap.size<=k) :y.n.d= []\/∀x,y.a=some x->¬S x.block:=by
 obtain⟨_,_,_,_,h5⟩:=h.d;rcases h5 with h5|⟨b,off,hb,hlt,_⟩
 ·exact .inl (List.length_eq_zero_iff.mp h5)
 ·refine .inr fun x hx hs=>?_;rw[hb]at hx
  cases hx
  exact absurd (hS _ hs) (Nat.not_le_of_lt hlt)
structure PM (w:World) (g:Nat) (a:Option Addr) (cap gd gf Nd Nf:Nat) (Fd Ff:Value->Option Value) (us:List aP) (A:List Mb) :Prop where
 o:an w g 153 [.slice a A.length cap,.map (some gd),.map (some gf)]
 r:w.ownsRow 0 77 6 (.slice a A.length cap) A.length (bc us)
 e:ax us=bI A
 s:∀u∈us,uN u/\gx 0 w u
 md:dG w gd .string Nd Fd
 mf:dG w gf .string Nf Ff
 ne:gd≠gf
 sM:Gd A
section
variable {w:World} {g cap gd gf Nd Nf:Nat} {a:Option Addr} {Fd Ff:Value->Option Value} {us:List aP} {A:List Mb} {S:Nat->Prop}
theorem PB.dv (h:PB w g a cap gd gf Nd Nf Fd Ff us A) :PM w g a cap gd gf Nd Nf Fd Ff us A:=⟨h.o,h.r,h.e,h.s,h.md,h.mf,h.ne,h.sM⟩
theorem PM.below (h:PM w g a cap gd gf Nd Nf Fd Ff us A){w':World}(hb:Below w.heap.size w w') :PM w' g a cap gd gf Nd Nf Fd Ff us A:=
 ⟨h.o.below hb h.o.lt,bS h.r hb aj,h.e,fun u hu=>⟨(h.s u hu).1,bS (h.s u hu).2 hb aj⟩,h.md.below hb h.md.lt,h.mf.below hb h.mf.lt,h.ne,h.sM⟩
theorem PM.fin (h:PM w g a cap gd gf Nd Nf Fd Ff us A)(hi:DG S g a gd gf us){w0:World}(ho:aZ S w0 w)(hl:∀k,S k->k<w0.heap.size){y:Mb}(hy:DU A y=0)(fd:Fm Fd (A++ [y]) 0 (fun _=> .bool true))(ff:Fm Ff (A++ [y]) 1 (fun r=> .int .i64 (r:Int)))
 {wn z2 z3 z4:World}{u:aP}{va:Option Addr}{vc:Nat}(hu:Nw S w wn A y u)(bn:Below w.heap.size w wn)(b2:Below wn.heap.size wn z2)
 (o3:z3.ownsRow 0 77 6 (.slice va (A.length+1) vc) (A.length+1) (bc (us++ [u])))(b3:Below 0 z2 z3)(k3:∀k,k<z2.heap.size->some k≠(Value.slice a A.length cap).ownBlock->z3.heap[k]? =z2.heap[k]?)
 (x3: (Value.slice va (A.length+1) vc).ownBlock= (Value.slice a A.length cap).ownBlock\/ (Value.slice va (A.length+1) vc).ownBlock=some z2.heap.size)
 (o4:an z4 g 153 [.slice va (A.length+1) vc,.map (some gd),.map (some gf)])(t4:dU z3 z4 g) :
 aZ S w0 z4/\nR z4 (Grow S w0 z4) g (A++ [y]) :=by
 have B2:Below w.heap.size w z2:=ar bn b2;have H2:=h.below B2;have g2:g<z2.heap.size:=H2.o.lt;have kk:∀k,k<z2.heap.size->some k≠(Value.slice a A.length cap).ownBlock->k≠g->z4.heap[k]? =z2.heap[k]? :=fun k h1 h2 h3=> (t4.other h3).trans (k3 k h1 h2);have os:aZ S z2 z4:=⟨(t4.below (Nat.zero_le _)).os.trans b3.os,(t4.below (Nat.zero_le _)).tape.trans b3.tape,(t4.below (Nat.zero_le _)).output.trans b3.output,by rw[t4.size];exact b3.size,fun k h1 h2=>kk k h1 (fun e=>h2 (lK h.r hi.r k e.symm)) fun e=>h2 (e▸hi.g)⟩;have OS:aZ S w0 z4:=ho.trans ((aZ.aW B2 aj).trans os)
 have fr:∀v:aP,gx 0 z2 v->gx 0 z4 v:=fun v hv=>rv hv fun k hk=>by
  refine kk k (gp hv k hk).2 (fun e=>?_) (fun e=>mZ hv H2.o (by decide) (by rw[<- e];exact hk.symm));rcases hv.2 with⟨hv',_⟩|⟨b,c1,cu1,hv',_,hh,_⟩
  ·rw[hv']at hk;cases hk
  ·have hk:some b=some k:=by rw[hv']at hk;exact hk
   injection hk with hk;subst hk;rcases H2.r.2 with⟨hr',_⟩|⟨b2,c2,cu2,hr',_,hh2,_⟩
   ·rw[hr']at e;cases e
   ·have e:some b=some b2:=by rw[hr']at e;exact e
    injection e with e;subst e;rw[hh]at hh2;injection hh2 with hh2;injection hh2 with _ hh2 _;exact absurd hh2 (by decide)
 have UL:us.length=A.length:=by rw[<- aV,h.e,eC]
 refine⟨OS,va,vc,gd,gf,Nd,Nf,Fd,Ff,us++ [u],⟨?_,?_,?_,fun v hv=>?_,?_,fd,?_,ff,h.ne,At h.sM hy⟩,?_,fun k hk=>?_⟩
 ·rw[List.length_append,List.length_singleton];exact o4
 ·rw[List.length_append,List.length_singleton];refine rv o3 fun k hk=>t4.other fun e=>?_;subst e;rcases x3 with x3|x3
  ·exact mZ H2.r H2.o (by decide) (by rw[<- x3];exact hk.symm)
  ·rw[x3]at hk;injection hk with hk;omega
 ·rw[sP h.sM,<- h.e,<- hu.n];unfold ax;rw[List.map_append];rfl
 ·rcases List.mem_append.1 hv with hv|hv
  ·exact⟨(h.s v hv).1,fr v (H2.s v hv).2⟩
  ·obtain rfl:=List.mem_singleton.1 hv;exact⟨hu.s,fr v (bS hu.f b2 aj)⟩
 ·exact H2.md.block (kk gd H2.md.lt (mY H2.r H2.md) (Ne.symm (mV H2.o H2.md)))
 ·exact H2.mf.block (kk gf H2.mf.lt (mY H2.r H2.mf) (Ne.symm (mV H2.o H2.mf)))
 ·refine⟨.inl hi.g,.inl hi.d,.inl hi.f,fun x hx=>?_,fun v hv x hx=>?_⟩
  ·subst hx;have ex: (Value.slice (some x) (A.length+1) vc).ownBlock=some x.block:=by simp[Value.ownBlock]
   rcases x3 with x3|x3
   ·exact .inl (lK h.r hi.r _ (by rw[<- x3];exact ex))
   ·have hx:x.block=z2.heap.size:=by rw[ex]at x3;injection x3
    have hlt:= (gp o3 _ ex).2;refine .inr ⟨?_,by rw[t4.size];exact hlt⟩;rw[hx];exact Nat.le_trans ho.size B2.size
  ·rcases List.mem_append.1 hv with hv|hv
   ·exact .inl (hi.u v hv x hx)
   ·obtain rfl:=List.mem_singleton.1 hv;rcases hu.i x hx with h1|⟨h1,h2⟩
    ·exact .inl h1
    ·exact .inr ⟨Nat.le_trans ho.size h1,Nat.lt_of_lt_of_le h2 (Nat.le_trans b2.size os.size)⟩
 ·rcases hk with hk|⟨_,hk⟩
  ·exact Nat.lt_of_lt_of_le (hl k hk) OS.size
  ·exact hk
end
end Reb
namespace Reb
open Go.RowKit Go.Proofs.YtcjagakckffkiaaGreatDoor.Fit Pnm Tre Flt
section
variable {A:List Mb} {x:Mb}
end
theorem aX.zw {w w':World}{g len cap n c:Nat}{a b:Option Addr}{T:TypeId}{zs:List Int}(h:aX .u8 w a len cap zs)(ho:an w g T [.slice b n c])(t:dU w w' g) :aX .u8 w' a len cap zs:=by
 obtain⟨h1,h2,h3,h4,h5⟩:=h;refine⟨h1,h2,h3,h4,?_⟩;rcases h5 with h5|⟨q,off,rfl,hb,hc⟩
 ·exact .inl h5
 ·by_cases hz:len=0
  ·exact .inl hz
  ·have hne:q≠g:=by
    rintro rfl;have:=hc 0 (by omega);rw[ho.cell]at this
    cases off with
    |zero=>simp at this
    |succ off=>simp at this
   refine .inr ⟨q,off,rfl,by rw[t.size];exact hb,fun i hi=>?_⟩;have:=hc i hi;unfold World.cell? at this⊢;rw[t.other hne];exact this
theorem qt.zw {w w':World}{g n c:Nat}{b:Option Addr}{T:TypeId}{y:dh}(h:qt w y)(ho:an w g T [.slice b n c])(t:dU w w' g) :qt w' y:=⟨h.k,h.p,h.m,h.t,h.s,aX.zw h.d ho t,h.l⟩
end Reb
namespace Reb
open Go.RowKit Go.MapKept Go.Proofs.YtcjagakckffkiaaGreatDoor.Fit Pnm Tre Flt
theorem nR.mono {w:World}{S T:Nat->Prop}{g:Nat}{A:List Mb}(h:nR w S g A)(hST:∀k,S k->T k)(hT:∀k,T k->k<w.heap.size) :nR w T g A:=by
 obtain⟨a,cap,gd,gf,n1,n2,Fd,Ff,us,h1,h2,h3⟩:=h;exact⟨a,cap,gd,gf,n1,n2,Fd,Ff,us,h1,h2.mono hST,hT⟩
theorem nR.grow {w w':World}{S:Nat->Prop}{g:Nat}{A:List Mb}(h:nR w S g A)(hb:Below w.heap.size w w') :nR w' (Grow S w w') g A:=
 (h.below hb).mono (fun _ hk=> .inl hk) fun k hk=>hk.elim (fun h1=>Nat.lt_of_lt_of_le (h.lt k h1) hb.size) fun h1=>h1.2
end Reb
namespace Tre
def po (S:List Int)(i:Nat) :List Int:=S.map fun c=>if c∈bC S i then num S c else 0
theorem tM (S:List Int)(i:Nat) : (po S i).length=S.length:=by unfold po;rw[List.length_map]
theorem pr (S:List Int)(i:Nat){k:Nat}(h:k<S.length) : (po S i)[k]? =some (if S[k]∈bC S i then num S S[k]else 0) :=by
 unfold po;rw[List.getElem?_map,List.getElem?_eq_getElem h];rfl
theorem wR (S:List Int) :po S 0=List.replicate S.length 0:=by
 unfold po;rw[show bC S 0= []from rfl];simp only[List.not_mem_nil,if_false];exact List.map_const' ..
theorem zQ (S:List Int) :po S S.length=S.map (num S) :=by
 unfold po;refine List.map_congr_left fun c _=>?_;rw[lV];by_cases h:c∈cls S
 ·rw[if_pos h]
 ·rw[if_neg h];unfold num;rw[if_neg (fun h'=>h (jl.mpr h'))]
theorem wQ {S:List Int}{i:Nat}(hi:i<S.length)(h:¬cR S S[i]\/S[i]∈bC S i) :po S (i+1) =po S i/\bC S (i+1) =bC S i:=by
 have e:bC S (i+1) =bC S i:=by
  rw[fp hi,if_neg];rintro⟨h1,h2⟩;exact h.elim (fun h=>h h1) h2
 exact⟨by unfold po;rw[e],e⟩
theorem Cy {S:List Int}{i k:Nat}(hi:i<=S.length)(hk:k<S.length) : (if S[k]∈bC S i then num S S[k]else 0)≠0↔S[k]∈bC S i:=by
 by_cases h:S[k]∈bC S i
 ·rw[if_pos h,dC hi h];exact⟨fun _=>h,fun _=>by omega⟩
 ·rw[if_neg h];exact⟨fun h'=>absurd rfl h',fun h'=>absurd h' h⟩
def sg (S:List Int)(i:Nat)(v:Int) :Nat->List Int
 |0=>po S i
 |K+1=>if S[K]? =S[i]? then(sg S i v K).set K v else sg S i v K
theorem jk (S:List Int)(i:Nat)(v:Int) :∀K,(sg S i v K).length=S.length
 |0=>tM S i
 |K+1=>by
  unfold sg
  split
  ·rw[List.length_set,jk S i v K]
  ·exact jk S i v K
theorem tL (S:List Int)(i:Nat)(v:Int){k:Nat}(hk:k<S.length) :∀K,(sg S i v K)[k]? =if k<K/\S[k]? =S[i]? then some v else(po S i)[k]?
 |0=>by rw[if_neg (by omega)];rfl
 |K+1=>by
  have ih:=tL S i v hk K;unfold sg;by_cases e:S[K]? =S[i]?
  ·rw[if_pos e];by_cases ek:k=K
   ·subst ek;rw[List.getElem?_set_self (by rw[jk];exact hk),if_pos ⟨by omega,e⟩]
   ·rw[List.getElem?_set_ne (fun h=>ek h.symm),ih];by_cases c:k<K/\S[k]? =S[i]?
    ·rw[if_pos c,if_pos ⟨by omega,c.2⟩]
    ·rw[if_neg c,if_neg (fun h=>c ⟨by omega,h.2⟩)]
  ·rw[if_neg e,ih];by_cases c:k<K/\S[k]? =S[i]?
   ·rw[if_pos c,if_pos ⟨by omega,c.2⟩]
   ·rw[if_neg c,if_neg (fun h=>by
     by_cases ek:k=K
     ·subst ek;exact e h.2
     ·exact c ⟨by omega,h.2⟩)]
theorem zP {S:List Int}{i:Nat}(hi:i<S.length)(hm:cR S S[i])(hn:S[i]∉bC S i) :sg S i (((bC S i).length:Int) +1) S.length=po S (i+1)/\ (bC S (i+1)).length= (bC S i).length+1:=by
 have e:bC S (i+1) =bC S i++ [S[i]] :=by rw[fp hi,if_pos ⟨hm,hn⟩]
 refine⟨List.ext_getElem? fun k=>?_,by rw[e];simp⟩;by_cases hk:k<S.length
 ·rw[tL S i _ hk,pr S (i+1) hk,pr S i hk,e,List.getElem?_eq_getElem hk,List.getElem?_eq_getElem hi];by_cases c:S[k] =S[i]
  ·rw[if_pos ⟨hk,by rw[c]⟩,c,if_pos (by simp),pP hi hm hn]
  ·rw[if_neg (fun h=>c (Option.some.inj h.2))];by_cases h1:S[k]∈bC S i
   ·rw[if_pos h1,if_pos (by simp[h1])]
   ·rw[if_neg h1,if_neg (by simp[h1,c])]
 ·rw[List.getElem?_eq_none (by rw[jk];omega),List.getElem?_eq_none (by rw[tM];omega)]
theorem wU {S:List Int}{K:Nat}(hK:K<S.length)(c:Int) : (S.take (K+1)).count c=if S[K] =c then(S.take K).count c+1 else(S.take K).count c:=by
 rw[List.take_add_one,List.getElem?_eq_getElem hK];simp only[Option.toList_some,List.count_append,List.count_singleton];by_cases e:S[K] =c
 ·simp[e]
 ·simp[e]
end Tre
end Go.Proofs.YtcjagakckffkiaaGreatDoor
