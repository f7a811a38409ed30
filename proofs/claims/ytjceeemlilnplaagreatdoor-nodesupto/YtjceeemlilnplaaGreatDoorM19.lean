import Derived.Test.YtjceeemlilnplaaGreatDoorM13
import Derived.Test.YtjceeemlilnplaaGreatDoorM11
import Derived.Test.YtjceeemlilnplaaGreatDoorM12
import Derived.Test.YtjceeemlilnplaaGreatDoorM10
set_option maxRecDepth 100000
set_option maxHeartbeats 12800000
set_option linter.all false
namespace Go.Proofs.YtjceeemlilnplaaGreatDoor
open Go.RowKit Go.Maps Go.MuLone
theorem BG(B b:Nat)(s:ak)(f t:Int)(w:World)(h:aG B w b s)(hl:s.sh.length≤12)(hf:fi (λy:aS=>y.au==t) 0 s.sh=-1)(c:Int)(hcm:∀W,aG B W b s->Rc 57 #[.p b,.i f] W (.i c) λw'=>Fr [] W w'):
 Rc 31 #[.p b,.i f,.i t] w (.tuple #[.t ⟨#[]⟩,.i 3]) λw'=>Fr [] w w':=by
 have H1:Hid (Rc 56 #[.p b,.i t] w (.i (-1)) λw'=>w'=w):=by have h8:=aQ B b s t w h (by omega);rw[hf]at h8;exact h8
 have HS:=Hd h;have HC:=Hd hcm;clear h hf hcm;by_cases hf0:f=0
 .subst hf0;go_enter Tryz.func31,Tryz.ntmps31;go_wp2_with (first
   |(go_at_call 56;refine H1.o.mono ?_;rintro e w' ⟨rfl,hw'⟩;have hw'':=hw'.symm;subst hw''))
  go_ret2;exact⟨rfl,fR⟩
 have t3:(f==0)=false:=by simpa using hf0
 go_enter Tryz.func31,Tryz.ntmps31;go_wp2_with (first
  |(go_at_call 57;refine(HC.o _ HS.o).mono ?_;rintro e w2 ⟨rfl,f2⟩;have H2:=Hd f2;clear f2)
  |(go_at_call 56;refine H1.o.mono ?_;rintro e w' ⟨rfl,hw'⟩;have hw'':=hw'.symm;subst hw''))
 go_ret2;exact⟨rfl,H2.o⟩
theorem zy(B b:Nat)(s:ak)(t:Int)(w:World)(h:aG B w b s)(hl:s.sh.length≤12)(hf:fi (λy:aS=>y.au==t) 0 s.sh=-1):
 Rc 31 #[.p b,.i 0,.i t] w (.tuple #[.t ⟨#[]⟩,.i 3]) λw'=>Fr [] w w':=by
 have H1:Hid (Rc 56 #[.p b,.i t] w (.i (-1)) λw'=>w'=w):=by have h8:=aQ B b s t w h (by omega);rw[hf]at h8;exact h8
 clear h hf;go_enter Tryz.func31,Tryz.ntmps31;go_wp2_with (first
  |(go_at_call 56;refine H1.o.mono ?_;rintro e w' ⟨rfl,hw'⟩;have hw'':=hw'.symm;subst hw''))
 go_ret2;exact⟨rfl,fR⟩
theorem wX(B b:Nat)(s:ak)(f t:Int)(j:Nat)(w:World)(h:aG B w b s)(hl:s.sh.length≤12)(hf:fi (λy:aS=>y.au==t) 0 s.sh=(j:Int))(hf0:f≠0)(hcm:∀W,aG B W b s->Rc 57 #[.p b,.i f] W (.i (-1)) λw'=>Fr [] W w'):
 Rc 31 #[.p b,.i f,.i t] w (.tuple #[.t ⟨#[]⟩,.i 3]) λw'=>Fr [] w w':=by
 have H1:Hid (Rc 56 #[.p b,.i t] w (.i j) λw'=>w'=w):=by have h8:=aQ B b s t w h (by omega);rw[hf]at h8;exact h8
 have HS:=Hd h;have HC:=Hd hcm;have j0:¬(j:Int)<0:=by omega
 have t3:(f==0)=false:=by simpa using hf0
 clear h hf hcm hf0;go_enter Tryz.func31,Tryz.ntmps31;go_wp2_with (first
  |(go_at_call 57;refine(HC.o _ HS.o).mono ?_;rintro e w2 ⟨rfl,f2⟩;have H2:=Hd f2;clear f2)
  |(go_at_call 56;refine H1.o.mono ?_;rintro e w' ⟨rfl,hw'⟩;have hw'':=hw'.symm;subst hw''))
 go_ret2;exact⟨rfl,H2.o⟩
theorem ET(B b:Nat)(s:ak)(f t c:Int)(j:Nat)(x:aS)(w:World)(h:aG B w b s)(hl:s.sh.length≤12)(hf:fi (λy:aS=>y.au==t) 0 s.sh=(j:Int))(hx:s.sh[j]?=some x)(hf0:f≠0)(hcm:∀W,aG B W b s->Rc 57 #[.p b,.i f] W (.i c) λw'=>Fr [] W w')(hc0:0≤c)(hcx:x.came≤c):
 Rc 31 #[.p b,.i f,.i t] w (.tuple #[.t ⟨#[]⟩,.i 1]) λw'=>Fr [] w w':=by
 have H1:Hid (Rc 56 #[.p b,.i t] w (.i j) λw'=>w'=w):=by have h8:=aQ B b s t w h (by omega);rw[hf]at h8;exact h8
 have hj:j<s.sh.length:=(df.1 hx).1;obtain⟨ao,cap,hsv⟩:=ah h.sh;have ho:=h.sh;rw[hsv]at ho;obtain⟨gg,e',hcp,_⟩:=aB ho (by omega);subst e';have yE:Hid (∀W,Fr [] w W->W.cell? (Ad b 36)=some (.slice (some (Ad gg 0)) s.sh.length cap)∧W.cell? (Ad gg (j*36+3))=some (.i x.came)):=λW hW=>by have h2:=h.aA hW;refine⟨by rw[<-hsv];exact h2.cells.2.2.2.2.1,?_⟩;rw[h2.fE hsv j hj 3 (by omega),(df.1 hx).2];rfl
 have HS:=Hd h;have HC:=Hd hcm;obtain⟨n,hn⟩:=eX s.sh.length;obtain⟨xc,hxc⟩:=eX x.came;rw[hn,hxc]at yE;rw[hn]at hj;rw[hxc]at hcx;have j0:¬(j:Int)<0:=by omega
 have j1:(j:Int)<(n:Int):=by omega
 have j2:(0:Int)≤(j:Int):=by omega
 have t3:(f==0)=false:=by simpa using hf0
 have t4:¬c<0:=by omega
 have t5:xc≤c:=hcx;clear h ho hx hf hsv hn hxc hcm hf0;go_enter Tryz.func31,Tryz.ntmps31;go_wp2_with (first
  |(go_at_call 57;refine(HC.o _ HS.o).mono ?_;rintro e w2 ⟨rfl,f2⟩;have H2:=Hd f2;obtain⟨k36,k3⟩:=yE.o w2 f2;clear f2)
  |(go_at_call 56;refine H1.o.mono ?_;rintro e w' ⟨rfl,hw'⟩;have hw'':=hw'.symm;subst hw''))
 go_ret2;exact⟨rfl,H2.o⟩
theorem EU(B b:Nat)(s:aK)(f t:Int)(w:World)(h:aC B w b 0 s)(hl:s.ss.length≤12)(hf:fi (λy:Sn=>y.au==t) 0 s.ss=-1)(c:Int)(kn:Bool)
 (hc:∀W,aC B W b 1 s->Rc 54 #[.p b,.i f] W (.tuple #[.i c,.bool kn]) λw'=>Fr [] W w'):
 Rc 30 #[.p b,.i f,.i t] w (.tuple #[.t ⟨#[]⟩,.i 3]) λw'=>aC B w' b 0 s∧Fr (foot b s) w w':=by
 have R1:=h.lock 1;obtain⟨w1,hw1⟩:=eX (w.setCell (Ad b 0) (.int .i32 1));rw[hw1]at R1;have HL:=lock_free Tryz.muLib (Ad b 0) w h.cells.1 (h.frozen 0);have F1:Fr (foot b s) w w1:=by rw[<-hw1];exact aV b s w _
 have HF:=Hj3 hw1 R1 F1;have HS:=aF B b 1 s t w1 R1 (by omega);rw[hf]at HS;have HC:=Hd hc;clear h R1 F1 hw1 hf hc;go_enter_defers Tryz.func30,Tryz.ntmps30;go_wp2_with (first
  |(go_at_call 50;refine HL.mono ?_;rintro e w' ⟨rfl,hw'⟩;rw[HF.o.1]at hw';have hw':=hw'.symm;subst hw')
  |(go_at_call 53;refine HS.mono ?_;rintro e w2 ⟨rfl,hfr⟩;have HR2:=Hj2 (HF.o.2.1.aA hfr) (HF.o.2.2.trans hfr (by simp));clear hfr)
  |(go_at_call 54;refine(HC.o _ HR2.o.1).mono ?_;rintro e w3 ⟨rfl,hfr⟩;have HR3:=Hj2 (HR2.o.1.aA hfr) (HR2.o.2.trans hfr (by simp));clear hfr))
 refine leaves_cons (f:=51) (args:=#[.pointer (some ⟨b,0,none⟩)]) (by simp) (by simp[go_sem]) ?_;refine(eK Tryz.muLib (Ad b 0) .returning _ HR3.o.1.cells.1 (HR3.o.1.frozen 0)).mono ?_;rintro e u' w'' ⟨rfl,rfl,rfl⟩;exact⟨_,ft rfl _ _ _,rfl,HR3.o.1.lock 0,HR3.o.2.setCell _ (Or.inl (by simp[foot]))⟩
theorem uZ(B b:Nat)(q:Int)(s:aK)(w:World)(_h:aC B w b q s):
 Rc 54 #[.p b,.i 0] w (.tuple #[.i 0,.bool true]) λw'=>Fr [] w w':=by
 go_enter Tryz.func54,Tryz.ntmps54;go_wp2;go_ret2;exact⟨rfl,fR⟩
section
variable {B:Nat}{w w' w1 w2 W:World}{b rb:Nat}{s s':aK}{r r' r0:ak}{q:Nat}
def Vj(s:aK)(f c:Int)(kn:Bool):Prop:=∀B b qq W,aC B W b qq s->Rc 54 #[.p b,.i f] W (.tuple #[.i c,.bool kn]) λw'=>Fr [] W w'
def YX(r:ak)(f c:Int):Prop:=∀B b r0 W,RQ r r0->aG B W b r0->Rc 57 #[.p b,.i f] W (.i c) λw'=>Fr [] W w'
theorem vE(h:Ok 1000000000 r)(f:Int)(hf0:f≠0):
 (∃cr,YX r f cr∧∀s q,dK s r q->∃cp,Vj s f cp true∧f∈gls s∧∀C,CC s r C->cp=(C f).1∧cr=(C f).2)∨(YX r f (-1)∧∀s q,dK s r q->Vj s f 0 false):=by
 obtain⟨s1,q1,m1,_⟩:=id h;have l1:=m1.iQ;have l2:=m1.len;have l3:=m1.pY;have hg0:(f==0)=false:=by simpa using hf0
 rcases h.spot f with e'|⟨j,y,hy,e',hyg,_⟩
 .rcases jv (λy:Int×Int=>y.1==f) r.ms with em|⟨i,hi,em,hp⟩
  .right;exact⟨λB b r0 W⟨sv,mv,hr⟩hW=>by subst hr;exact Bj B b _ f W hW (by show r.sh.length≤12;omega) (by show r.ms.length≤12;omega) e' em,λs q m B b qq W hW=>Dx B b qq s f W hW m.len.1 m.len.2 hg0 (by rw[<-m.fi];exact e') (by rw[<-m.Me];exact em)⟩
  left;refine⟨r.ms[i].2,λB b r0 W⟨sv,mv,hr⟩hW=>by subst hr;exact Bh B b _ f i r.ms[i] W hW (by show r.sh.length≤12;omega) (by show r.ms.length≤12;omega) e' em (dp hi),λs q m=>?_⟩;have hi':i<s.ms.length:=by rw[<-m.pY];exact hi
  have hp2:r.ms[i].1=f:=by simpa using hp
  have hp1:s.ms[i].1=f:=by have e9:=congrArg (λl=>l[i]?) m.ms;simp only[List.getElem?_map]at e9;rw[dp hi,dp hi']at e9;simp at e9;omega
  refine⟨s.ms[i].2,λB b qq W hW=>Dw B b qq s f i s.ms[i] W hW m.len.1 m.len.2 hg0 (by rw[<-m.fi];exact e') (by rw[<-m.Me];exact em) (dp hi'),bn.2 (Or.inr ⟨s.ms[i],eE _,hp1⟩),λC cc=>⟨?_,?_⟩⟩
  .rw[cc.pm _ (eE hi'),hp1]
  rw[cc.rm _ (eE hi),hp2]
 left;refine⟨y.came,λB b r0 W⟨sv,mv,hr⟩hW=>by subst hr;exact Bg B b _ f j y W hW (by show r.sh.length≤12;omega) e' hy,λs q m=>?_⟩;obtain⟨x,hx,hxg,_,hxm⟩:=m.spot hy;refine⟨x.came,λB b qq W hW=>Dv B b qq s f j x W hW m.len.1 hg0 (by rw[<-m.fi];exact e') hx,bn.2 (Or.inl ⟨x,hxm,hxg.trans hyg⟩),λC cc=>⟨?_,?_⟩⟩
 .rw[cc.ps x hxm,hxg,hyg]
 rw[cc.rs y (eW hy),hyg]
theorem JG{y:aS}(bo:Nat->Int)(al:Bool)(cp cr:Int)(h:∀(k:Nat)(n z:Int),k<s.aL.length->n=(s.th y.au k).n->z=bo k->(cp≤n↔(al||decide (cr<z))=true)):qK s y.au cp s.aL.length=iG al bo cr (λk=>(s.th y.au k).x) s.aL.length:=by
 unfold qK iG;have hcg:∀(l:List Nat),(∀i∈l,i<s.aL.length)->l.filterMap (λi:Nat=>if cp≤(s.th y.au (i:Int)).n then some ((i:Int),(s.th y.au (i:Int)).x)else none)=l.filterMap (λi=>if al||decide (cr<bo i)then some ((i:Int),(s.th y.au i).x)else none):=λl hl=>by
  induction l with
  |nil=>rfl
  |cons a l ih=>
   have ha:=h a _ _ (hl a (by simp)) rfl rfl;rw[List.filterMap_cons,List.filterMap_cons,ih (λi hi=>hl i (by simp[hi]))];by_cases hq:cp≤(s.th y.au (a:Int)).n
   .rw[if_pos hq,if_pos (ha.1 hq)]
   rw[if_neg hq,if_neg (λh9=>hq (ha.2 h9))]
 exact hcg _ (λi hi=>gk.1 hi)
theorem zG(f t m nb:Int)(l:List (Int×B4))(h:l.length≤16):(dN f t m nb l).size≤1000:=by
 have e:(gT f t m nb l).length=18+5*l.length:=by rw[Bb];simp only[dE,oq,B4.list',il,List.length_nil];omega
 unfold dN;rw[fY];have e2:(⟨(gT f t m nb l).toArray⟩:cC).size=(gT f t m nb l).length:=by simp[ByteArray.size]
 have e3:(kE (gT f t m nb l)).ba.size=4:=rfl;omega
theorem Fv(al:Bool)(bo:Nat->Int)(c:Int)(d d':Nat->B4)(k:Nat)(h:∀i,i<k->d i=d' i):iG al bo c d k=iG al bo c d' k:=by
 unfold iG;have hcg:∀(l:List Nat),(∀i∈l,i<k)->l.filterMap (λi=>if al||decide (c<bo i)then some ((i:Int),d i)else none)=l.filterMap (λi=>if al||decide (c<bo i)then some ((i:Int),d' i)else none):=λl hl=>by
  induction l with
  |nil=>rfl
  |cons a l ih=>rw[List.filterMap_cons,List.filterMap_cons,ih (λi hi=>hl i (by simp[hi])),h a (hl a (by simp))]
 exact hcg _ (λi hi=>gk.1 hi)
theorem B4.Qr{x y:B4}(h:x.ba=y.ba):x=y:=by have h1:=congrArg (λb:cC=>b.data) h;cases x;cases y;simpa[B4.ba]using h1
theorem wF(h:Ok 1000000000 r)(f t:Int):∃c:cC×Int,c.1.size≤1000∧BC 30 31 (λb=>#[.p b,.i f,.i t]) r (fT c) r:=by
 obtain⟨s1,q1,m1,hq1,hwf⟩:=id h;have l1:=m1.iQ;have l2:=m1.len;have hbl:=m1.bl;rcases h.spot t with e'|⟨j,y,hy,e',hyg,_⟩
 .refine⟨(⟨#[]⟩,3),by show 0≤1000;omega,?_⟩;have any:∃cr,(f≠0->YX r f cr)∧∀s q,dK s r q->∃c kn,Vj s f c kn:=by
   by_cases hf0:f=0
   .subst hf0;exact⟨0,λh=>absurd rfl h,λs q m=>⟨0,true,λB b qq W hW=>uZ B b qq s W hW⟩⟩
   rcases vE h f hf0 with⟨cr,h1,h2⟩|⟨h1,h2⟩
   .exact⟨cr,λ_=>h1,λs q m=>by obtain⟨cp,h3,_⟩:=h2 s q m;exact⟨cp,true,h3⟩⟩
   exact⟨-1,λ_=>h1,λs q m=>⟨0,false,h2 s q m⟩⟩
  obtain⟨cr,a1,a2⟩:=any;refine⟨UC.still λB b s q w rp m=>?_,RC.still λB b r0 w hr rp=>?_,Ok.up⟩
  .obtain⟨c,kn,h3⟩:=a2 s q m;exact EU B b s f t w rp m.len.1 (by rw[<-m.fi];exact e') c kn (λW hW=>h3 B b 1 W hW)
  obtain⟨sv,mv,rfl⟩:=id hr;by_cases hf0:f=0
  .subst hf0;exact zy B b _ t w rp (by show r.sh.length≤12;omega) e'
  exact BG B b _ f t w rp (by show r.sh.length≤12;omega) e' cr (λW hW=>a1 hf0 B b _ W hr hW)
 have hym:=eW hy;have hw:=hwf.2.2 y hym;obtain⟨x1,hx1,Vk,_,Qt⟩:=m1.spot hy;have CB:∀{s q},dK s r q->∀{x:Sn},s.ss[j]?=some x->x.time=y.time∧x.au=y.au∧x∈s.ss:=λ{s q}m{x}hx=>by have hj:j<s.ss.length:=(df.1 hx).1;have e9:=m.at hj;rw[(df.1 hx).2,(df.1 hy).2]at e9;unfold t3 r3 at e9;simp only[Prod.mk.injEq]at e9;exact⟨e9.2.1,e9.1,eW hx⟩
 have htr:=m1.tr x1 Qt;have aae:=(CB m1 hx1).1;have htb:=m1.gr t (bn.2 (Or.inl ⟨x1,Qt,Vk.trans hyg⟩));have Dj:∀k,k<16->y.born[k]?=some (y.born.getD k 0):=λk hk=>by
  have:k<y.born.length:=by rw[hw.2];omega
  simp[this]
 have hD:∀{s q},dK s r q->∀k,k<r.blocks->(s.th y.au k).x=(s1.th y.au k).x:=λ{s q}m k hk=>by have h1:=m.th y hym k (by have:=m.bl.1;omega);have h2:=m1.th y hym k (by omega);rw[h1]at h2;exact B4.Qr (by simpa using h2)
 have go:∀(al:Bool)(cr:Int),(∀B b r0 W,RQ r r0->aG B W b r0->∀(d:Nat->B4)(bo:Nat->Int),(∀k,k<r.blocks->y.dat[k]?=some (d k).ba)->(∀k,k<r.blocks->y.born[k]?=some (bo k))->Rc 31 #[.p b,.i f,.i t] W (.tuple #[.t (dN f t y.time r.blocks (iG al bo cr d r.blocks)),.i 0]) λw'=>Fr [] W w')->(∀s q,dK s r q->∃cp,Vj s f cp true∧∀C,CC s r C->cp<(C t).1∧∀(n z:Int),CT C (gls s) s.came r.now n z->(cp≤n↔(al||decide (cr<z))=true))->∃c:cC×Int,c.1.size≤1000∧BC 30 31 (λb=>#[.p b,.i f,.i t]) r (fT c) r:=λal cr hR hP=>by
  refine⟨(dN f t y.time r.blocks (iG al (λk=>y.born.getD k 0) cr (λk=>(s1.th y.au k).x) r.blocks),0),zG _ _ _ _ _ (eJ (tJ _ _ _ _ _) (by omega)),UC.still λB b s q w rp m=>?_,RC.still λB b r0 w hr rp=>?_,Ok.up⟩
  .obtain⟨cp,h1,h2⟩:=hP s q m;obtain⟨C,cc⟩:=m.cc;obtain⟨h3,h4⟩:=h2 C cc;obtain⟨x,hx,hxg,_,hxm⟩:=m.spot hy;have hv:=m.bl;have hfl:=JG (s:=s) (y:=y) (λk=>y.born.getD k 0) al cp cr (λk n z hk hn hz=>by
    obtain⟨z',e1,e2⟩:=cc.tb y hym k hk;have e3:=Dj k (by omega);rw[e1]at e3;have e4:z'=z:=by rw[hz];simpa using e3
    rw[hn,<-e4];exact h4 _ _ e2)
   rw[Fv _ _ _ _ _ _ (λi hi=>hD m i (by omega)),<-hv.1]at hfl;have h5:=Mh B b s f t cp j x w rp m.len.1 hv.2.2 ⟨by omega,by omega⟩ (by rw[<-m.fi];exact e') hx (λW hW=>h1 B b 1 W hW) (by rw[cc.ps x hxm,hxg,hyg];exact h3);rw[hyg]at hfl;rw[<-hv.1,hfl,(CB m hx).1]at h5;rw[hyg];exact h5
  exact hR B b r0 w hr rp _ _ (λk hk=>m1.th y hym k (by omega)) (λk hk=>Dj k (by omega))
 by_cases hf0:f=0
 .subst hf0;refine go true 0 (λB b r0 W hr rp d bo hd Dj=>?_) (λs q m=>⟨0,λB b qq W hW=>uZ B b qq s W hW,λC cc=>⟨?_,λn z hct=>⟨λ_=>rfl,λ_=>hct.1.1⟩⟩⟩)
  .obtain⟨sv,mv,rfl⟩:=hr;refine EO B b {r with sv:=sv,mv:=mv} t j y d bo W rp (by show r.sh.length≤12;omega) (by show r.blocks≤16;omega) e' hy ⟨by omega,by omega⟩ ⟨by omega,by omega⟩ hd Dj ?_;obtain⟨C,cc⟩:=m1.cc;have:=cc.rng t (bn.2 (Or.inl ⟨x1,Qt,Vk.trans hyg⟩));rw[cc.rs y hym,hyg];omega
  obtain⟨x,hx,hxg,_,hxm⟩:=m.spot hy;have:=cc.rng t (bn.2 (Or.inl ⟨x,hxm,hxg.trans hyg⟩));omega
 rcases vE h f hf0 with⟨cr,h1,h2⟩|⟨h1,h2⟩
 .have hor:∀s q,dK s r q->∃cp,Vj s f cp true∧∀C,CC s r C->(y.came=(C t).2∧((C t).1≤cp↔y.came≤cr))∧1≤(C f).2∧cr=(C f).2∧cp=(C f).1∧f∈gls s:=λs q m=>by
   obtain⟨cp,h3,hfg,h4⟩:=h2 s q m;obtain⟨x,hx,hxg,_,hxm⟩:=m.spot hy;refine⟨cp,h3,λC cc=>?_⟩;obtain⟨e1,e2⟩:=h4 C cc;have YI:=bn.2 (Or.inl ⟨x,hxm,hxg.trans hyg⟩);have Oc:y.came=(C t).2:=by rw[cc.rs y hym,hyg]
   have h5:=cc.ord f hfg t YI;have h6:=cc.rng f hfg;exact⟨⟨Oc,by omega⟩,by omega,e2,e1,hfg⟩
  obtain⟨cp1,_,h7⟩:=hor s1 q1 m1;obtain⟨C1,cc1⟩:=m1.cc;have h8:=h7 C1 cc1;have hfb:=m1.gr f h8.2.2.2.2;by_cases hle:y.came≤cr
  .refine⟨(⟨#[]⟩,1),by show 0≤1000;omega,UC.still λB b s q w rp m=>?_,RC.still λB b r0 w hr rp=>?_,Ok.up⟩
   .obtain⟨cp,h3,h4⟩:=hor s q m;obtain⟨x,hx,hxg,_,hxm⟩:=m.spot hy;obtain⟨C,cc⟩:=m.cc;exact Jy B b s f t cp j x w rp m.len.1 (by rw[<-m.fi];exact e') hx (λW hW=>h3 B b 1 W hW) (by rw[cc.ps x hxm,hxg,hyg];exact(h4 C cc).1.2.2 hle)
   obtain⟨sv,mv,rfl⟩:=id hr;exact ET B b _ f t cr j y w rp (by show r.sh.length≤12;omega) e' hy hf0 (λW hW=>h1 B b _ W hr hW) (by omega) hle
  refine go false cr (λB b r0 W hr rp d bo hd Dj=>?_) (λs q m=>?_)
  .obtain⟨sv,mv,rfl⟩:=id hr;exact ES B b _ t j y d bo W rp (by show r.sh.length≤12;omega) (by show r.blocks≤16;omega) e' hy ⟨by omega,by omega⟩ ⟨by omega,by omega⟩ hd Dj f cr hf0 ⟨by omega,by omega⟩ (λW hW=>h1 B b _ W hr hW) (by omega) (by omega)
  obtain⟨cp,h3,h4⟩:=hor s q m;refine⟨cp,h3,λC cc=>⟨?_,λn z hct=>?_⟩⟩
  .have:=(h4 C cc).1.2;omega
  obtain⟨_,_,ecr,ecp,hfg⟩:=h4 C cc;have h9:=hct.2 f hfg;rw[ecp,ecr];simpa using h9
 exact⟨(⟨#[]⟩,3),by show 0≤1000;omega,UC.still λB b s q w rp m=>Fb B b s f t j w rp m.len.1 (by rw[<-m.fi];exact e') (λW hW=>h2 s q m B b 1 W hW),RC.still λB b r0 w hr rp=>by obtain⟨sv,mv,rfl⟩:=id hr;exact wX B b _ f t j w rp (by show r.sh.length≤12;omega) e' hf0 (λW hW=>h1 B b _ W hr hW),Ok.up⟩
end
end Go.Proofs.YtjceeemlilnplaaGreatDoor
