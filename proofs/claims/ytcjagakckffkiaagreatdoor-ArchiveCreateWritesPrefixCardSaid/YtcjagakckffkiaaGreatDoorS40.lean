import Derived.Test.YtcjagakckffkiaaGreatDoorS39
import Derived.Test.YtcjagakckffkiaaGreatDoorS38
set_option maxHeartbeats 16000000
set_option maxRecDepth 100000
namespace Go.Proofs.YtcjagakckffkiaaGreatDoor
section
open Go.RowKit
theorem xL {q:Nat}{T:TypeId}{o:Nat}{err:Int}{p:Value}(w:World)(h:an w q T [.int .i64 o,.int .i64 err,p])(ho:o<=200000000000000) :
 Calls Tryz.prog 188 #[.pointer (some ⟨q,0,none⟩)] w fun x w'=>x= .returned (.int .i64 (bV o))/\w=w':=by
 have c0:=h.get 0 rfl;have ho': (o:Int)<=200000000000000:=by omega
 obtain⟨d,hd⟩:=named (bV o);have hpi: ((512:Int) - (o:Int) % 512) % 512= (d:Int) :=by rw[hd.out];unfold bV;omega
 rw[<- hd.out];clear h ho;go_enter Tryz.func188,Tryz.ntmps188;go_wp2;go_ret;exact⟨by first|rfl|exact congrArg (fun z=>Ending.returned (.int .i64 z)) hpi,rfl⟩
theorem zC {z:Int}(h1:0<=z)(h2:z<=9223372036854775807) :IntKind.i64.wrap z=z:=by
 have hb:IntKind.i64.bits=64:=rfl;have hs:IntKind.i64.signed=true:=rfl;unfold IntKind.wrap;simp only[hb,hs,Bool.true_and];have e: (2:Int) ^64=18446744073709551616:=by decide
 have e': (2:Int) ^ (64- 1) =9223372036854775808:=by decide
 rw[e,e',Int.emod_eq_of_lt h1 (by omega),if_neg (by simp;omega)]
theorem iD {S:Nat->Prop}{q m:Nat}{ys:List Int}{F:Int}{o:Nat}{err:Int}(a:Option Addr)(n cap:Nat)(bs:List Int)(w:World)(h:jY w S q m ys F o err)(hb:BytesIn w a bs)(hl:bs.length=n)(hnc:n<=cap)(hn:ys.length+n<=100000000)(hF:F<=9223372036854775807)
 (hd:∀x,a=some x->bs= []\/¬S x.block) :
 Calls Tryz.prog 138 #[.pointer (some ⟨q,0,none⟩),.slice a n cap] w fun e w'=>e= .returned (.int .i64 (sd F ys.length n err))/\
  jY w' (Grow S w w') q m (ys++bs.take (se F ys.length n err)) F (o+se F ys.length n err) (sd F ys.length n err)/\aZ S w w':=by
 have H:=aa h;obtain⟨S',cs,r,h1,h2,h3,h4,h5,h6,h7⟩:=h;have c1:=h1.get 1 rfl;have c2:=h1.get 2 rfl;by_cases he:err=0
 ·subst he;have e1:se F ys.length n 0=df F ys.length n:=if_pos rfl;have e2:sd F ys.length n 0=eg F ys.length n:=if_pos rfl;rw[e1,e2];obtain⟨L,hL⟩:=named ys.length;have H2:=aa h2;have H1:=aa h1;have H3:=aa h3;have H4:=aa h4;have H5:=aa h5;have H6:=aa h6;have H7:=aa h7;have HB:=aa hb;have HL:=aa hl;have HN:=aa hn;have HD:Hid (∀x,a=some x->bs= []\/¬S' x.block) :=fun x hx=> (hd x hx).imp id fun h h'=>h (h3 _ h');rw[<- hL.out];obtain⟨K,hK⟩:=named (df F L n);obtain⟨E,hE⟩:=named (eg F L n);rw[<- hK.out,<- hE.out];clear h1 h2 h3 h4 h5 h6 h7 hb hl hd e1 e2 hn;go_enter Tryz.func138,Tryz.ntmps138;go_wp2_with fail;refine(jQ w H2.out).mono ?_;rintro e w1 ⟨rfl,rfl⟩;rw[<- hL.out];go_wp2_with fail;refine(By a n cap bs w H2.out HB.out HL.out hnc HN.out hF HD.out).mono ?_;rintro e w2 ⟨rfl,s2,o2⟩;rw[<- hL.out]at s2;rw[<- hL.out];rw[<- hK.out]at s2;rw[<- hE.out];have OB2:=aa (H1.out.only o2 H5.out);have S2:=aa s2;have Q2:=aa o2
  have KL:Hid ((ys++bs.take K).length=L+K/\L+K<=100000000/\K<=n) :=by
   show _/\_/\_;have hk:K<=n:=by rw[hK.out];unfold df;split<;>omega
   rw[List.length_append,List.length_take,HL.out];have:=HN.out;have:=hL.out;omega
  have hk8: (L:Int) +K<=100000000:=by have:=KL.out.2.1;omega
  have c2:=OB2.out.get 2 rfl;clear s2 o2 c1;go_wp2_with fail;have NL:Hid (∀w':World,Below w2.heap.size w2 w'->Calls Tryz.prog 25 #[.pointer (some ⟨m,0,none⟩)] w' fun e w''=>e= .returned (.int .i64 ((L:Int) +K))/\w'=w'') :=fun w' hb=> (jQ w' (S2.out.below hb)).mono fun e w'' ⟨h1,h2⟩=>⟨by rw[h1,KL.out.1];rfl,h2⟩;have evk:IntKind.i64.wrap ((L:Int) +K- L) = (K:Nat) :=by rw[show(L:Int) +K- L= (K:Nat) by omega];exact zC (by omega) (by omega)
  have NA:Hid (∀w':World,Below w2.heap.size w2 w'->Calls Tryz.prog 103 #[.pointer (some ⟨q,0,none⟩),.int .i64 K,.int .i64 E] w' fun x w''=>x= .returned (.int .i64 E)/\
   an w'' q 167 [.int .i64 ((o+K:Nat) :Int),.int .i64 E,.pointer (some ⟨m,0,none⟩)]/\Out q (q+1) w' w''/\w''.heap.size=w'.heap.size) :=fun w' hb=>je E w' (OB2.out.below hb OB2.out.lt) (by have:=H7.out;have:=hL.out;have:=KL.out;omega)
  have K1:Hid (∀w',Below w2.heap.size w2 w'->w'.cell? ⟨q,2,none⟩=some (.pointer (some ⟨m,0,none⟩))) :=fun w' hb=> (OB2.out.below hb OB2.out.lt).get 2 rfl;refine wp_region_held_drew (S:= (fun w'=>w'.cell? ⟨q,2,none⟩=some (.pointer (some ⟨m,0,none⟩)))) (by kernel_rfl) (K1.out _ au.drew) (fun hHeld=>?_);refine aY 0 (h:=aY 1 (h:=aY 2 (h:=aY 3 (h:=?_))));simp only[Act.put,bw,bx,bz];refine aY 4 (h:=aY 5 (h:=aY 6 (h:=aY 8 (h:=?_))));simp only[Act.put,bw,bx,bz];refine tk 10 ?_;simp only[Act.put,bw,bx,bz];refine rd 7 fun K hK=>?_;go_simp;refine(NL.out _ au.drew).mono ?_;rintro e w3 ⟨rfl,rfl⟩;go_wp2_with fail;refine hK.out _ _ (K1.out _ au.drew) (fun hHeld=>?_);clear hK K
  (try simp only[Act.put,bw,bx,bz])
  refine tk 9 ?_;simp only[Act.put,bw,bx,bz];refine rd 11 fun K hK=>?_;go_simp;refine(NA.out _ au.drew).mono ?_;rintro e w4 ⟨rfl,ob4,u4,z4⟩;have OB4:=aa ob4;have U4:=aa u4;have Z4:=aa z4;clear ob4 u4 z4;go_wp2_with fail;refine hK.out _ _ (OB4.out.get 2 rfl) (fun hHeld=>?_);clear hK K
  (try simp only[Act.put,bw,bx,bz])
  refine tk 12 ?_;simp only[Act.put,bw,bx,bz];refine wpAnyH_done (by kernel_rfl) ?_ _
  all_goals
   go_wp2_with fail;go_ret;have z4:w4.heap.size=w2.heap.size:=Z4.out
   have ox:aZ (fun k=>k=q) w2 w4:=by
    have d:aZ (fun k=>k=q) w2 w2.drew:= .aW au.drew aj;have u:=U4.out;exact d.trans ⟨u.os,u.tape,u.output,u.size,fun k hk hj=>u.block k hk (by omega)⟩
   have hq2:∀k,Grow S' w w2 k->k≠q:=fun k hk h=>hk.elim (fun h'=>H5.out (h▸h')) (fun h'=>by have:=H6.out q H4.out;omega);have sx:=S2.out.only ox hq2;have z2:=Q2.out.size;refine⟨rfl,⟨Grow S' w w2,cs,_,OB4.out,sx,fun k hk=>hk.imp (H3.out k) (fun h=>⟨h.1,by omega⟩),.inl H4.out,fun h=>hq2 q h rfl,fun k hk=>hk.elim (fun h=>by have:=H6.out k h;omega) (fun h=>h.2),by rw[KL.out.1];have:=H7.out;have:=hL.out;omega⟩,?_⟩;exact(Q2.out.mono (fun k _ hk=>H3.out k hk)).trans (ox.mono (fun k _ hk=>hk▸H4.out))
 ·have e1:se F ys.length n err=0:=if_neg he;have e2:sd F ys.length n err=err:=if_neg he;have hne: (err !=0) =true:=by simp[he]
  rw[e1,e2,List.take_zero,List.append_nil,Nat.add_zero];clear h1 h2 h3 h4 h5 h6 h7 hb hl hd e1 e2 c2;go_enter Tryz.func138,Tryz.ntmps138;go_wp2;go_ret;exact⟨rfl,H.out.stay au⟩
theorem Ca {S:Nat->Prop}{q m:Nat}{ys:List Int}{F:Int}{o:Nat}{err:Int}(w:World)(h:jY w S q m ys F o err)(hn:ys.length<=90000000)(hF:F<=9223372036854775807) :
 Calls Tryz.prog 139 #[.pointer (some ⟨q,0,none⟩)] w fun e w'=>e= .returned (.int .i64 (sd F ys.length (bV o) err))/\
  jY w' (Grow S w w') q m (ys++ (ao (bV o)).take (se F ys.length (bV o) err)) F (o+se F ys.length (bV o) err) (sd F ys.length (bV o) err)/\aZ S w w':=by
 have H:=aa h;obtain⟨S',cs,r,h1,h2,h3,h4,h5,h6,h7⟩:=h;have H1:=aa h1;have ho:Hid (o<=200000000000000) :=by show _<=_;omega
 obtain⟨p,hp⟩:=named (bV o);have hp5:p<512:=by rw[hp.out];unfold bV;omega
 obtain⟨i0,HI⟩:=dx (P:=Tryz.prog) (e:=5) (by kernel_rfl);have HN:=aa hn;rw[<- hp.out];clear h1 h2 h3 h4 h5 h6 h7 hn;go_enter Tryz.func139,Tryz.ntmps139;go_wp2_with fail;refine(xL w H1.out ho.out).mono ?_;rintro e w1 ⟨rfl,rfl⟩;rw[<- hp.out];go_wp2_with (refine cU rfl _ _ 25 5 rfl Tryz.underlying25 i0 HI p rfl rfl (by omega) ?_;intro w2 h2 b2;have H2:=aa h2;have B2:=aa b2;clear h2 b2);obtain⟨Z,hZ⟩:=named (ao p);rw[<- hZ.out]at H2;have hlt:=H.out.lt.1;refine(iD (some ⟨w.heap.size,0,none⟩) p p Z w2 (H.out.below B2.out) H2.out.bytes (by rw[hZ.out,aB]) aj (by have:=HN.out;omega) hF (fun x hx=> .inr (by cases hx;intro h;have:=hlt _ h;simp at this))).mono ?_;rintro e w3 ⟨rfl,s3,o3⟩;go_wp2_with fail;go_ret;rw[<- hZ.out];exact⟨rfl,s3.wide B2.out.size hlt o3.size,(aZ.aW B2.out aj).trans o3⟩
theorem uP {F:Int}{L n p:Nat}(h:0<=F/\F- L<n) :df F L (n+p) =df F L n/\eg F L (n+p) =11/\eg F L n=11/\ ((0<=F-> (L:Int)<=F)->df F L n<n) :=by
 unfold df eg;rw[if_pos h,if_pos h,if_pos (by omega),if_pos (by omega)];exact⟨rfl,rfl,rfl,fun _=>by omega⟩
theorem uQ {F:Int}{L n p:Nat}(h:¬(0<=F/\F- L<n)) :df F L n=n/\eg F L n=0/\df F L (n+p) =n+df F (L+n) p/\eg F L (n+p) =eg F (L+n) p:=by
 unfold df eg;rw[if_neg h,if_neg h];refine⟨rfl,rfl,?_,?_⟩
 ·split<;>split<;>omega
 ·congr 1
  apply propext;omega
theorem sU {S:Nat->Prop}{q m:Nat}{ys:List Int}{F:Int}{o:Nat}{err:Int}(a:Option Addr)(n cap:Nat)(bs:List Int)(w:World)(h:jY w S q m ys F o err)(hb:BytesIn w a bs)(hl:bs.length=n)(hnc:n<=cap)(hn:ys.length+n<=80000000)(hF:F<=9223372036854775807)
 (hd:∀x,a=some x->bs= []\/¬S x.block)(p:Nat)(hp:p=bV (o+n)) :
 Calls Tryz.prog 85 #[.pointer (some ⟨q,0,none⟩),.slice a n cap] w fun e w'=>e= .returned (.int .i64 (sd F ys.length (n+p) err))/\
  jY w' (Grow S w w') q m (ys++ (bs++ao p).take (se F ys.length (n+p) err)) F (o+se F ys.length (n+p) err) (sd F ys.length (n+p) err)/\aZ S w w':=by
 have H:=aa h;have HP:=aa hp;have HB:=aa hb;have HL:=aa hl;have HN:=aa hn;have HD:=aa hd;obtain⟨L,hL⟩:=named ys.length;obtain⟨K,hK⟩:=named (se F L (n+p) err);obtain⟨E,hE⟩:=named (sd F L (n+p) err);rw[<- hL.out,<- hK.out,<- hE.out];clear h hp hb hl hn hd;by_cases he:err=0
 ·subst he;have k0:se F L (n+p) 0=df F L (n+p) :=if_pos rfl;have k1:sd F L (n+p) 0=eg F L (n+p) :=if_pos rfl;have k2:se F L n 0=df F L n:=if_pos rfl;have k3:sd F L n 0=eg F L n:=if_pos rfl;by_cases hf:0<=F/\F- L<n
  ·obtain⟨a1,a2,a3,a4⟩:=uP (p:=p) hf
   have hLF:0<=F-> (L:Int)<=F:=by
    obtain⟨_,_,_,s,_⟩:=H.out.sink;rw[hL.out];exact s.bytes.2.2.2.2
   have hKn:=a4 hLF;have HK:Hid (se F L n 0=K) :=by show _=_;rw[hK.out,k0,k2,a1]
   have HE:Hid (sd F L n 0=11) :=by show _=_;rw[k3,a3]
   have HE':Hid (E=11) :=by show _=_;rw[hE.out,k1,a2]
   have HT:Hid ((bs++ao p).take K=bs.take K) :=by show _=_;rw[List.take_append_of_le_length (by rw[HL.out,<- HK.out,k2];omega)]
   clear k0 k1 k2 k3 a1 a2 a3 a4 hf hLF hKn;go_enter Tryz.func85,Tryz.ntmps85;go_wp2_with fail;refine(iD a n cap bs w H.out HB.out HL.out hnc (by have:=HN.out;omega) hF HD.out).mono ?_;rintro e w2 ⟨rfl,s2,o2⟩;rw[<- hL.out,HK.out,HE.out]at s2;rw[<- hL.out,HE.out];have S2:=aa s2;have O2:=aa o2;clear s2 o2;go_wp2_with fail;go_ret;rw[HE'.out,HT.out];exact⟨rfl,S2.out,O2.out⟩
  ·obtain⟨a1,a2,a3,a4⟩:=uQ (p:=p) hf;obtain⟨K2,hK2⟩:=named (df F (L+n) p);have HK:Hid (se F L n 0=n) :=by show _=_;rw[k2,a1]
   have HE:Hid (sd F L n 0=0) :=by show _=_;rw[k3,a2]
   have HK':Hid (K=n+K2) :=by show _=_;rw[hK.out,k0,a3,hK2.out]
   have HW:Hid (se F (L+n) p 0=K2) :=by show _=_;rw[hK2.out];exact if_pos rfl
   have HE':Hid (sd F (L+n) p 0=E) :=by show _=_;rw[hE.out,k1,a4];exact if_pos rfl
   have HT:Hid (ys++ (bs++ao p).take K= (ys++bs) ++ (ao p).take K2) :=by
    show _=_;rw[HK'.out,List.take_append,HL.out,List.take_of_length_le (by rw[HL.out];omega),Nat.add_sub_cancel_left,List.append_assoc]
   have HBT:Hid (bs.take n=bs) :=List.take_of_length_le (by rw[HL.out];exact aj);have HYL:Hid ((ys++bs).length=L+n) :=by show _=_;rw[List.length_append,HL.out,hL.out]
   clear k0 k1 k2 k3 a1 a2 a3 a4 hf;go_enter Tryz.func85,Tryz.ntmps85;go_wp2_with fail;refine(iD a n cap bs w H.out HB.out HL.out hnc (by have:=HN.out;omega) hF HD.out).mono ?_;rintro e w2 ⟨rfl,s2,o2⟩;rw[<- hL.out,HK.out,HE.out,HBT.out]at s2;rw[<- hL.out,HE.out];have S2:=aa s2;have O2:=aa o2;clear s2 o2;go_wp2_with fail;refine(Ca w2 S2.out (by rw[HYL.out];have:=HN.out;have:=hL.out;omega) hF).mono ?_;rintro e w3 ⟨rfl,s3,o3⟩;rw[<- HP.out,HYL.out,HW.out,HE'.out]at s3;rw[<- HP.out,HYL.out,HE'.out];have S3:=aa s3;have O3:=aa o3;clear s3 o3;go_wp2_with fail;go_ret;rw[HT.out,HK'.out,<- Nat.add_assoc];exact⟨rfl,S3.out.grow (mA O2.out.size O3.out.size) (qZ H.out.lt.1 (Nat.le_trans O2.out.size O3.out.size)),O2.out.Cg O3.out⟩
 ·have k0:se F L (n+p) err=0:=if_neg he;have k1:sd F L (n+p) err=err:=if_neg he;have HK:Hid (se F L n err=0) :=if_neg he;have HE:Hid (sd F L n err=err) :=if_neg he;have HK':Hid (K=0) :=by show _=_;rw[hK.out,k0]
  have HE':Hid (E=err) :=by show _=_;rw[hE.out,k1]
  have hne: (err !=0) =true:=by simp[he]
  clear k0 k1 he;go_enter Tryz.func85,Tryz.ntmps85;go_wp2_with fail;refine(iD a n cap bs w H.out HB.out HL.out hnc (by have:=HN.out;omega) hF HD.out).mono ?_;rintro e w2 ⟨rfl,s2,o2⟩;rw[<- hL.out,HK.out,HE.out]at s2;rw[<- hL.out,HE.out];have S2:=aa s2;have O2:=aa o2;clear s2 o2;go_wp2_with fail;go_ret;rw[HE'.out,HK'.out];exact⟨rfl,S2.out,O2.out⟩
end
namespace Arc
open Go.Lib Go.RowKit Go.Proofs.YtcjagakckffkiaaGreatDoor.Fit Pxr Pnm Tre Flt fQ Reb
def zD (w:World)(S:Nat->Prop)(q m gF gW:Nat)(P:List Int)(F:Int) :Prop:=
 ∃ys er,jY w S q m ys F ys.length er/\an w gF 26 [.int .i64 er]/\an w gW 112 [.pointer (some ⟨q,0,none⟩)]/\¬S gF/\¬S gW/\gF≠gW/\tz F P ys er
theorem zD.lt {w:World}{S:Nat->Prop}{q m gF gW:Nat}{P:List Int}{F:Int}(h:zD w S q m gF gW P F) : (∀k,S k->k<w.heap.size)/\gF<w.heap.size/\gW<w.heap.size:=by
 obtain⟨_,_,h1,h2,h3,_⟩:=h;exact⟨h1.lt.1,h2.lt,h3.lt⟩
theorem zD.below {w w':World}{S:Nat->Prop}{q m gF gW:Nat}{P:List Int}{F:Int}(h:zD w S q m gF gW P F)(hb:Below w.heap.size w w') :zD w' S q m gF gW P F:=by
 obtain⟨ys,er,h1,h2,h3,h4⟩:=h;exact⟨ys,er,h1.below hb,h2.below hb h2.lt,h3.below hb h3.lt,h4⟩
theorem iz {S T:Nat->Prop}{a b c:World}(h:aZ S a b)(h':aZ T b c)(hT:∀k,T k->S k\/a.heap.size<=k) :aZ S a c:=
 ⟨h'.os.trans h.os,h'.tape.trans h.tape,h'.output.trans h.output,Nat.le_trans h.size h'.size,fun k hk hs=> (h'.block k (Nat.lt_of_lt_of_le hk h.size) fun c=> (hT k c).elim hs fun c=>by omega).trans (h.block k hk hs)⟩
theorem pT {n:Nat}(h:n % 512=0) :bV n=0:=by unfold bV;omega
theorem na {S:Nat->Prop}{q m gF gW:Nat}{P:List Int}{F:Int}(a:Option Addr)(n cap:Nat)(bs:List Int)(w:World)(h:zD w S q m gF gW P F)(hb:BytesIn w a bs)(hl:bs.length=n)(hnc:n<=cap)(hP:P.length % 512=0)(hn:P.length+n<=79000000)(hF:F<=9223372036854775807)
 (hd:∀x,a=some x->bs= []\/¬S x.block) :
 Calls Tryz.prog 84 #[.slice a n cap,.int .i64 0,.pointer (some ⟨gF,0,none⟩),.pointer (some ⟨gW,0,none⟩)] w fun e w'=>e= .returned (.tuple #[])/\
  zD w' (Grow S w w') q m gF gW (P++ (bs++ao (bV n))) F/\aZ (fun k=>S k\/k=gF) w w':=by
 obtain⟨ys,er,k1,k2,k3,k4,k5,k6,k7⟩:=h;have WT:=aa k1;have GF:=aa k2;have GW:=aa k3;have NF:=aa k4;have NW:=aa k5;have NE:=aa k6;have WR:=aa k7;have S26:Hid ((Tryz.prog.info? 26).map (·.size) =some 1) :=by show _=_;kernel_rfl
 have c0:=k2.get 0 rfl;have c1:=k3.get 0 rfl;by_cases he:¬er=0
 ·have ne: (er !=0) =true:=by simpa using he
  have RES:Hid (zD w (Grow S w w) q m gF gW (P++ (bs++ao (bV n))) F) :=⟨ys,er,k1.grow (fun _ h=> .inl h) (fun k hk=>hk.elim (k1.lt.1 k) fun h=>h.2),k2,k3,fun h=>h.elim k4 fun h=>by have:=h.1;have:=h.2;omega,fun h=>h.elim k5 fun h=>by have:=h.1;have:=h.2;omega,k6,k7.stop he _⟩;clear he k1 k2 k3 k4 k5 k6 k7 hb hl hnc hP hn hF hd;go_enter Tryz.func84,Tryz.ntmps84;go_wp2_with fail
  first|refine bodyPost_end (results_none Tryz.results84 _ _ _) rfl ?_|refine bodyPost_ret (results_none Tryz.results84 _ _ _) rfl ?_
  exact⟨rfl,RES.out,aZ.refl _ _⟩
 obtain rfl:er=0:=Decidable.not_not.mp he;obtain⟨rfl,hle⟩:=k7.zero;have HP:Hid (bV n=bV (ys.length+n)) := (AY hP).symm;obtain⟨g1,g2⟩:=tz.go hle (bs++ao (bV n)) (n+bV n) (by rw[List.length_append,aB,hl]);have G1:=aa g1;have G2:=aa g2;have PW:=aa (sU a n cap bs w k1 hb hl hnc (by omega) hF hd (bV n) HP.out);have e0:se F ys.length (n+bV n) 0=df F ys.length (n+bV n) :=if_pos rfl;have e1:sd F ys.length (n+bV n) 0=eg F ys.length (n+bV n) :=if_pos rfl;rw[e0,e1]at PW;obtain⟨K,hK⟩:=named (df F ys.length (n+bV n));obtain⟨E,hE⟩:=named (eg F ys.length (n+bV n));obtain⟨Y,hY⟩:=named (bs++ao (bV n));rw[<- hK.out,<- hE.out,<- hY.out]at PW;rw[<- hK.out,<- hE.out,<- hY.out]at G1;rw[<- hK.out,<- hY.out]at G2;rw[<- hY.out];clear he k1 k2 k3 k4 k5 k6 k7 hb hl hnc hP hn hF hd g1 g2 e0 e1 hle HP hK hE hY;go_enter Tryz.func84,Tryz.ntmps84;go_wp2_with fail;refine PW.out.mono ?_;rintro e w2 ⟨rfl,s2,o2⟩;have S2:=aa s2;have O2:=aa o2;have F2:=aa (GF.out.only o2 NF.out);have W2:=aa (GW.out.only o2 NW.out);clear s2 o2 PW c0 c1;go_wp2_with (first| (refine al rfl 26 _ _ rfl gF 0 rfl (.int .i64 E) rfl rfl S26.out 26 [.int .i64 0] F2.out (by show 0<1;omega) ?_;intro w3 g3 t3;have F3:=aa g3;have T3:=aa (dU.only (S:=fun k=>k=gF) t3 rfl);have Z3:Hid (w3.heap.size=w2.heap.size) :=t3.size;clear g3 t3))
 first|refine bodyPost_end (results_none Tryz.results84 _ _ _) rfl ?_|refine bodyPost_ret (results_none Tryz.results84 _ _ _) rfl ?_
 have lf:=GF.out.lt;have lw:=GW.out.lt
 have nF:∀k,Grow S w w2 k->¬k=gF:=fun k hk e=>by
  subst e;rcases hk with h|h
  ·exact NF.out h
  ·have:=h.1;omega
 refine⟨rfl,⟨_,E,by rw[G2.out];exact(S2.out.only T3.out nF).grow (fun k hk=>hk.imp id fun h=>⟨h.1,by rw[Z3.out];exact h.2⟩) (fun k hk=>hk.elim (fun h=>by have:=WT.out.lt.1 k h;have:=O2.out.size;have:=Z3.out;omega) fun h=>h.2),F3.out,W2.out.only T3.out (fun e=>NE.out e.symm),fun h=>h.elim NF.out fun h=>by have:=h.1;omega,fun h=>h.elim NW.out fun h=>by have:=h.1;omega,NE.out,G1.out⟩,(O2.out.mono fun k _ h=> .inl h).trans (T3.out.mono fun k _ h=> .inr h)⟩
theorem CT {x:fM}(h:dn x=0) : (nP x).length % 512=0:=by
 obtain⟨h1,h2⟩:=iO h
 split at h2<;>omega
theorem yx {S0:Nat->Prop}{q m B0:Nat}{F:Int}(a:Option Addr)(n cap:Nat)(us:List dh)(A:List Mb)(w:World)(h:jY w S0 q m [] F 0 0)(V:FV B0 w)(hB:∀k,S0 k->B0<=k)(HU:dF w a n cap us)(hA:wz us=A)(ok:∀x∈A,wD x)(hL: (dJ A).length<=70000000)(hF:F<=9223372036854775807)(hS:us≠ []->∀x,a=some x->¬S0 x.block)(hD:∀u∈us,u.n.d≠ []->∀x,u.a=some x->¬S0 x.block) :
 Calls Tryz.prog 49 #[.pointer (some ⟨q,0,none⟩),.slice a n cap] w fun e w'=>e= .returned (.int .i64 (vh F (sk A)))/\
  (∃S' cs r,fU w' S' m (wk F (sk A)) F cs r/\∀k,S' k->S0 k\/w.heap.size<=k)/\aZ S0 w w':=by
 have HH:=aa h;have HV:=aa V;have HB:=aa hB;have HUU:=aa HU;have HA:=aa hA;have OK:=aa ok;have HL:=aa hL;have HF:=aa hF;have HS:=aa hS;have HD:=aa hD;have MZ:=aa Fh;have MO:=aa Ef;have AL:Hid (A.length=n) :=by show _=_;rw[<- hA,lJ];exact HU.n
 have nB: (n:Int)<=100000000:=by
  have h5:∀L:List Mb,(∀x∈L,wD x)->L.length*512<= (dJ L).length:=by
   intro L
   induction L with
   |nil=>intro _;exact Nat.zero_le _
   |cons x L ih=>
    intro h;have:=ih fun y hy=>h y (List.mem_cons_of_mem _ hy);have:=xJ x (h x List.mem_cons_self).1;rw[qy,List.length_append,List.length_cons];omega
  have:=h5 A ok;have:=AL.out;omega
 have nc: (n:Int)<=cap:=by have:=HU.c;omega
 have S26:Hid ((Tryz.prog.info? 26).map (·.size) =some 1) :=by show _=_;kernel_rfl
 have Z26:Hid ((Tryz.prog.info? 26).map (·.zero) =some (some (.int .i64 0))) :=by show _=_;kernel_rfl
 obtain⟨i0,HI⟩:=dx (P:=Tryz.prog) (e:=5) (by kernel_rfl)
 have LT:Hid (∀j,(dJ (A.take j)).length<= (dJ A).length) :=fun j=>by
  conv=>rhs;rw[<- List.take_append_drop j A,tB,List.length_append]
  omega
 have hmf:∀(fn:Fn) (first cap:Array Value) (w:World),(Instr.makeFunc fn first cap).run Tryz.prog w= .ok (.func fn first cap) w:=fun _ _ _ _=>rfl;clear h V hB HU hA ok hL hF hS hD;go_enter Tryz.func49,Tryz.ntmps49;go_wp2_with (first| (refine nL rfl 112 _ rfl (.pointer (some ⟨q,0,none⟩)) rfl rfl ?_;intro w1 h1 b1;have G1:=aa h1;have B1:=aa b1;clear h1 b1) | (refine kL rfl 26 rfl (.int .i64 0) rfl Z26.out ?_;intro w2 h2 b2;have G2:=aa (G1.out.below b2 G1.out.lt);have F2:=aa h2;have L2:=aa G1.out.lt;have B2:=aa (ar B1.out b2);clear h2 b2) | (refine al rfl 26 _ _ rfl w1.heap.size 0 rfl (.int .i64 0) rfl rfl S26.out 26 [.int .i64 0] F2.out (by show 0<1;omega) ?_;intro w3 g3 t3;have F3:=aa g3;have G3:=aa (G2.out.aK t3 (Nat.ne_of_lt L2.out));have B3:=aa (B2.out.trans (t3.below B1.out.size));clear g3 t3));obtain⟨gW,hgW⟩:=named w.heap.size;obtain⟨gF,hgF⟩:=named w1.heap.size;have WF:Hid (w.heap.size<=gF/\gW<gF/\w.heap.size=gW) :=by show _/\_/\_;rw[hgF.out,hgW.out];exact⟨B1.out.size,L2.out,rfl⟩
 rw[<- hgF.out]at F3;rw[<- hgW.out]at G3;rw[<- hgF.out,<- hgW.out];have W3:Hid (zD w3 S0 q m gF gW (dJ (A.take 0)) F) :=⟨[],0,HH.out.below B3.out,F3.out,G3.out,fun c=>by have:=HH.out.lt.1 gF c;have:=WF.out;omega,fun c=>by have:=HH.out.lt.1 gW c;have:=WF.out;omega,by have:=WF.out;omega,tz.nil F⟩;have O3:Hid (aZ S0 w w3) :=aZ.aW B3.out aj;clear F3 G3 F2 G2 G1 B1 B2 B3 L2 hgW hgF;go_wp2_with fail;go_loopw [12] (fun i wr=>∃(j:Nat) (S:Nat->Prop),i= .int .i64 j/\j<=n/\zD wr S q m gF gW (dJ (A.take j)) F/\ (∀k,S k->S0 k\/w.heap.size<=k)/\aZ S0 w wr) (fun i _=>n- (intOf i).toNat)
 case atStart=>exact⟨0,S0,rfl,Nat.zero_le _,W3.out,fun k h=> .inl h,O3.out⟩
 case round=>
  clear W3 O3;obtain⟨j,S,rfl,hj,hw,hs,ho⟩:=hrel;have WS:=aa hw;have SS:=aa hs;have OO:=aa ho;have PM:Hid ((dJ (A.take j)).length % 512=0) :=tA fun x hx=>OK.out x (List.mem_of_mem_take hx);by_cases hjn:j<n
  ·obtain⟨b,off,y,rfl,hb,hy,hf,hat⟩:=HUU.out.get j hjn;obtain⟨c0,c1,c2,c3,c4,c5⟩:= (hat.block (ho.block b hb (HS.out (List.ne_nil_of_mem (List.mem_of_getElem? hy)) _ rfl))).c hy;have EJ:Hid (A[j]? =some y.n) :=by show _=_;rw[<- HA.out];exact pK hy
   have JN:=aa hjn;have P1:=aa (Nat.le_trans hf.p (show 140737488355328<=maxLen by decide));have P2:=aa (Nat.le_trans hf.t (show 140737488355328<=maxLen by decide));have MK:=aa (OK.out y.n (List.mem_of_getElem? EJ.out));have YD:=aa (HD.out y (List.mem_of_getElem? hy));have DF:=aa hf.d;have ST:=aa (eE EJ.out);have LX:=LT.out (j+1);rw[ST.out,jf,List.length_append,ku]at LX;clear hb hy hf hat hw hs ho hjn hj;obtain⟨⟨⟨k,p,mo,t,s⟩,d⟩,x,xc⟩:=y;obtain⟨L,hL⟩:=named d.length;have c5':wr.cell? ⟨b,off+j*6+5,none⟩=some (.slice x L xc) :=by rw[hL.out];exact c5
   clear c5;have j1: (j:Int) <n:=by have:=JN.out;omega
   obtain⟨zs,hzs⟩:=named (nP ⟨k,p,mo,t,s⟩);have CK0:dn ⟨k,p,mo,t,s⟩=0:=MK.out.1
   have EN:Hid (∀q,FV B0 q->Calls Tryz.prog 57 #[.agg (cB k p mo t s).toArray] q (eO zs 0 q)) :=fun q hq=>by
    have:=yc ⟨k,p,mo,t,s⟩ q hq.v P1.out P2.out;rw[CK0,<- hzs.out]at this;exact this
   have Z5:Hid (zs.length % 512=0) :=by show _=_;rw[hzs.out];exact CT CK0
   have XB:Hid ((dJ (A.take j)).length+ (zs.length+ (L+bV L))<=70000000) :=by show _<=_;rw[hzs.out,hL.out];exact Nat.le_trans LX HL.out
   have NEXT:Hid (dJ (A.take (j+1)) = (dJ (A.take j) ++ (zs++ao (bV zs.length))) ++ (d++ao (bV L))) :=by
    show _=_;rw[ST.out,jf,pT Z5.out,hzs.out,hL.out];unfold si;rw[show ao 0= []from rfl,List.append_nil,List.append_assoc]
   have VR:Hid (FV B0 wr) :=HV.out.below (OO.out.below HB.out HV.out.s);have LW:=aa WS.out.lt;obtain⟨PJ,hPJ⟩:=named (dJ (A.take j));rw[<- hPJ.out]at WS PM XB NEXT;have DL:Hid (d.length=L) :=hL.out.symm;clear LX CK0 hzs hPJ hL;go_wp2_with (first| (refine ag rfl 70 rfl (iR 0 emp 0 emp 0 none 0 0) MZ.out ?_;intro w5 g5 b5;have G5:=aa g5;have B5:=aa b5;clear g5 b5 c0 c1 c2 c3 c4 c5') | (refine ae rfl 70 _ _ rfl wr.heap.size rfl (iR k p mo t s x L xc) (iR 0 emp 0 emp 0 none 0 0) rfl 70 G5.out MO.out.2 rfl (mK _ _ _ _ _ _ _ _) ?_;intro w6 g6 t6;have G6:=aa g6;have B6:=aa (B5.out.trans (t6.below aj));have d0:=g6.get 0 rfl;have d1:=g6.get 1 rfl;have d2:=g6.get 2 rfl;have d3:=g6.get 3 rfl;have d4:=g6.get 4 rfl;clear g6 t6));refine(EN.out w6 (VR.out.go B6.out)).mono ?_;rintro e w7 ⟨hb_,hn_,hc_,rfl,hl,hlc,hlm,hbi,hbf,b7⟩;have B7:=aa (ar B6.out b7);have G7:=aa (G6.out.below b7 G6.out.lt);have W7:=aa (WS.out.below B7.out);have EZ:Hid (zs.length=hn_) :=hl;have FB:Hid (∀x,hb_=some x->zs= []\/¬S x.block) :=fun x0 hx0=> .inr fun c=>by have:=LW.out.1 _ c;have:=hbf x0 hx0;have:=B6.out.size;omega
   have PA:=aa (na hb_ hn_ hc_ zs w7 W7.out hbi hl hlc PM.out (by have:=XB.out;omega) HF.out FB.out);clear d0 d1 d2 d3 d4 b7 hbi hbf hl hlc hlm EN;go_wp2_with fail;refine PA.out.mono ?_;rintro e w8 ⟨rfl,s8,o8⟩;rw[<- EZ.out]at s8;have S8:=aa s8;have O8:=aa o8;have G8:=aa (G7.out.only o8 (fun c=>c.elim (fun c=>by have:=LW.out.1 _ c;omega) fun c=>by have:=LW.out.2.1;omega));have d5:=G8.out.get 5 rfl;have OW:Hid (aZ S0 w w8) :=iz OO.out ((aZ.aW (S:=fun k=>S k\/k=gF) B7.out aj).trans o8) fun k hk=>hk.elim (SS.out k) fun c=> .inr (by rw[c];exact WF.out.1);have S8S:Hid (∀k,Grow S w7 w8 k->S0 k\/w.heap.size<=k) :=fun k hk=>hk.elim (SS.out k) fun c=> .inr (Nat.le_trans (Nat.le_trans OO.out.size B7.out.size) c.1)
   have DI:Hid (BytesIn w8 x d) :=by
    show BytesIn _ _ _;by_cases bX:d= []
    ·exact .inl bX
    ·exact(aX.only DF.out OW.out (YD.out bX)).bytes
   have DA:Hid (∀x0,x=some x0->d= []\/¬Grow S w7 w8 x0.block) :=fun x0 hx0=>by
    by_cases bX:d= []
    ·exact .inl bX
    ·refine .inr fun c=>?_;obtain⟨b9,off9,hx9,hlt9⟩:= (DF.out.vv).plain (by have:d.length≠0:=fun e=>bX (List.length_eq_zero_iff.mp e);omega);rw[hx0]at hx9;injection hx9 with hx9;rcases S8S.out _ c with c|c
     ·exact YD.out bX x0 hx0 c
     ·rw[hx9]at c;exact absurd hlt9 (Nat.not_lt.mpr c)
   have PB:=aa (na x L xc d w8 S8.out DI.out DL.out (by rw[<- DL.out];exact DF.out.2.1) (by rw[List.length_append,List.length_append,aB];have:=PM.out;have:=Z5.out;rw[pT Z5.out];omega) (by rw[List.length_append,List.length_append,aB,pT Z5.out];have:=XB.out;omega) HF.out DA.out);rw[<- NEXT.out]at PB;clear s8 o8 PA W7 FB;go_wp2_with fail;refine PB.out.mono ?_;rintro e w9 ⟨rfl,s9,o9⟩;have S9:=aa s9;have OX:Hid (aZ S0 w w9) :=iz OW.out o9 fun k hk=>hk.elim (S8S.out k) fun c=> .inr (by rw[c];exact WF.out.1);have S9S:Hid (∀k,Grow (Grow S w7 w8) w8 w9 k->S0 k\/w.heap.size<=k) :=fun k hk=>hk.elim (S8S.out k) fun c=> .inr (Nat.le_trans OW.out.size c.1);clear s9 o9 PB d5 DI DA;go_wp2_with fail
   go_round
   case rel=>exact⟨j+1,_,by go_num,by have:=JN.out;omega,S9.out,S9S.out,OX.out⟩
   case measure=>simp[intOf];have:=JN.out;omega
  ·obtain rfl:j=n:=by omega
   have AT:Hid (dJ (A.take j) =dJ A) :=by show _=_;rw[<- AL.out,List.take_length]
   rw[AT.out]at WS PM;clear hw hs ho hjn hj;go_wp2_with (first| (refine cU rfl _ _ 25 5 rfl Tryz.underlying25 i0 HI 1024 rfl rfl (by decide) ?_;intro w5 h5 b5;have A5:=aa h5;have B5:=aa b5;clear h5 b5));have W5:=aa (WS.out.below B5.out);have LW:=aa WS.out.lt;refine(na (some ⟨wr.heap.size,0,none⟩) 1024 1024 (ao 1024) w5 W5.out A5.out.bytes (aB _) aj PM.out (by have:=HL.out;omega) HF.out (fun x hx=> .inr fun c=>by injection hx with hx;rw[<- hx]at c;have:=LW.out.1 _ c;simp at this)).mono ?_;rintro e w6 ⟨rfl,s6,o6⟩;obtain⟨ys,er,k1,k2,k3,k4,k5,k6,k7⟩:=s6;rw[show bV 1024=0 from rfl,show ao 0= []from rfl,List.append_nil,show dJ A++ao 1024=sk A from rfl]at k7;obtain⟨rfl,rfl⟩:=k7.fin;have OX:Hid (aZ S0 w w6) :=iz OO.out ((aZ.aW (S:=fun k=>S k\/k=gF) B5.out aj).trans o6) fun k hk=>hk.elim (SS.out k) fun c=> .inr (by rw[c];exact WF.out.1);have d0:=k2.get 0 rfl;obtain⟨S',cs,r,h1,h2,_⟩:=k1.sink;have RES:Hid (∃S' cs r,fU w6 S' m (wk F (sk A)) F cs r/\∀k,S' k->S0 k\/w.heap.size<=k) :=⟨S',cs,r,h1,fun k hk=> (h2 k hk).elim (SS.out k) fun c=> .inr (Nat.le_trans (Nat.le_trans OO.out.size B5.out.size) c.1)⟩;clear k1 k2 k3 k4 k5 k6 k7 h1 h2 o6;obtain⟨er,her⟩:=named (vh F (sk A));rw[<- her.out]at d0;go_wp2_with fail;go_ret;rw[<- her.out];exact⟨rfl,RES.out,OX.out⟩
end Arc
end Go.Proofs.YtcjagakckffkiaaGreatDoor
