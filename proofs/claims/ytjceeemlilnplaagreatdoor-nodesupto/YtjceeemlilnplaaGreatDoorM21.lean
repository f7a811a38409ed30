import Derived.Test.YtjceeemlilnplaaGreatDoorM11
import Derived.Test.YtjceeemlilnplaaGreatDoorM12
import Derived.Test.YtjceeemlilnplaaGreatDoorM14
import Derived.Test.YtjceeemlilnplaaGreatDoorM18
import Derived.Test.YtjceeemlilnplaaGreatDoorM20
set_option maxRecDepth 100000
set_option maxHeartbeats 12800000
set_option linter.all false
namespace Go.Proofs.YtjceeemlilnplaaGreatDoor
open Go.RowKit Go.Maps Go.MuLone
theorem wN(B b:Nat)(q:Int)(s:aK)(f t m:Int)(v:Value)(w:World)(h:aC B w b q s)(hl:s.ss.length≤12)(hm:s.ms.length≤12)(hv:∃a n c,v=.slice a n c)(hf:fi (λy:Sn=>y.au==t) 0 s.ss=-1)(j:Nat)(hf2:fi (λy:Int×Int=>y.1==t) 0 s.ms=(j:Int)):
 Rc 126 #[.p b,.agg #[.i f,.i t,.i m,.i s.aL.length,v]] w (.i 7) λw'=>Fr [] w w':=by
 obtain⟨va,vn,vc,rfl⟩:=hv;obtain⟨bx,hbx⟩:=eX w.heap.size;obtain⟨w0,hw0⟩:=eX (w.alloc (.cells #[.i f,.i t,.i m,.i s.aL.length,.slice va vn vc] 161));have b0:w0.heap[bx]?=some (.cells #[.i f,.i t,.i m,.i s.aL.length,.slice va vn vc] 161 (0,0)):=by rw[<-hw0,<-hbx];exact di w _
 have F0:Fr [] w w0:=by rw[<-hw0];exact fR.alloc _
 have R0:=h.aA F0;have HB:Hid (w0.heap[bx]?=some (.cells #[.i f,.i t,.i m,.i s.aL.length,.slice va vn vc] 161 (0,0))∧Fr [] w w0∧aC B w0 b q s∧bx<w0.heap.size):=⟨b0,F0,R0,(cY.1 b0).1⟩;have HX:Hid (∀W,Fr [] w0 W->W.cell? (Ad bx 0)=some (.i f)∧W.cell? (Ad bx 1)=some (.i t)):=λW hW=>by have hh:=(hW.block bx (cY.1 b0).1 (by simp)).trans b0;exact⟨ce hh rfl,ce hh rfl⟩
 have e1:cE w0 bx 1 t:=(HX.o w0 fR).2;have e3:cE w0 bx 3 s.aL.length:=ce b0 rfl;have c3:cD w0 b 3 (.slice (some (Ad s.vb 0)) s.aL.length s.aL.length):=R0.cells.2.2.1;obtain⟨sa,sc,hsv⟩:=ah h.ss;have HV:=Hd hsv;have dV:=hw0;have HS:Hid (∀W,aC B W b q s->Rc 53 #[.p b,.i t] W (.i (-1)) λw'=>Fr [] W w'):=λW hW=>by have:=aF B b q s t W hW (by omega);rw[hf]at this;exact this
 have HM:Hid (∀W,aC B W b q s->Rc 109 #[.p b,.i t] W (.i j) λw'=>Fr [] W w'):=λW hW=>by have:=bF B b q s t W hW (by omega);rw[hf2]at this;exact this
 obtain⟨nv,jR⟩:=eX s.aL.length;rw[jR]at e3 c3 dV HB⊢;obtain⟨ns,hns⟩:=eX s.ss.length;rw[hns]at hl HV;clear h hw0 b0 F0 R0 hsv hf hf2 jR hns;go_enter Tryz.func126,Tryz.ntmps126;go_wp2;go_region;go_wp2_with (first
  |(go_at_call 53;refine(HS.o _ (HB.o.2.2.1.aA fR.drew)).mono ?_;rintro e w2 ⟨rfl,hfr⟩;have HR2:Hid (Fr [] w0 w2∧aC B w2 b q s):=⟨((Fr.refl [] w0).drew).trans hfr (by simp),(HB.o.2.2.1.aA fR.drew).aA hfr⟩;have x2:=(HX.o w2 HR2.o.1).2;clear hfr)
  |(go_at_call 109;refine(HM.o _ HR2.o.2).mono ?_;rintro e w3 ⟨rfl,hfr⟩;have HR3:=Hj2 (HR2.o.1.trans hfr (by simp)) (HR2.o.2.aA hfr);clear hfr))
 go_ret;exact⟨rfl,HB.o.2.1.trans HR3.o.1 (by simp)⟩
theorem sI(B b:Nat)(q:Int)(s:aK)(f t m:Int)(v:Value)(w:World)(h:aC B w b q s)(hv:∃a n c,v=.slice a n c)(nb:Int)(hnb:nb≠(s.aL.length:Int)):
 Rc 126 #[.p b,.agg #[.i f,.i t,.i m,.i nb,v]] w (.i 6) λw'=>Fr [] w w':=by
 obtain⟨va,vn,vc,rfl⟩:=hv;obtain⟨bx,hbx⟩:=eX w.heap.size;obtain⟨w0,hw0⟩:=eX (w.alloc (.cells #[.i f,.i t,.i m,.i nb,.slice va vn vc] 161));have b0:w0.heap[bx]?=some (.cells #[.i f,.i t,.i m,.i nb,.slice va vn vc] 161 (0,0)):=by rw[<-hw0,<-hbx];exact di w _
 have F0:Fr [] w w0:=by rw[<-hw0];exact fR.alloc _
 have R0:=h.aA F0;have HB:Hid (w0.heap[bx]?=some (.cells #[.i f,.i t,.i m,.i nb,.slice va vn vc] 161 (0,0))∧Fr [] w w0∧aC B w0 b q s∧bx<w0.heap.size):=⟨b0,F0,R0,(cY.1 b0).1⟩;have HX:Hid (∀W,Fr [] w0 W->W.cell? (Ad bx 0)=some (.i f)∧W.cell? (Ad bx 1)=some (.i t)):=λW hW=>by have hh:=(hW.block bx (cY.1 b0).1 (by simp)).trans b0;exact⟨ce hh rfl,ce hh rfl⟩
 have e1:cE w0 bx 1 t:=(HX.o w0 fR).2;have e3:cE w0 bx 3 nb:=ce b0 rfl;have c3:cD w0 b 3 (.slice (some (Ad s.vb 0)) s.aL.length s.aL.length):=R0.cells.2.2.1;have dV:=hw0;obtain⟨nv,jR⟩:=eX s.aL.length;rw[jR]at c3 hnb;have hne:(nb != (nv:Int))=true:=by simpa using hnb
 clear h hw0 b0 F0 R0 jR hnb HX;go_enter Tryz.func126,Tryz.ntmps126;go_wp2;go_region;go_wp2;go_ret;exact⟨rfl,by first|exact HB.o.2.1|exact HB.o.2.1.drew⟩
theorem zm(B b:Nat)(s:aK)(tx:cC)(w:World)(h:aC B w b 0 s)(f t m:Int)(nv:Nat)(l:List (Int×B4))(en:Int)(hen:(en==0)=false)
 (hp:∀W,Cl 125 #[.t tx] W λe w'=>∃v,e=.returned (.tuple #[.agg #[.i f,.i t,.i m,.i (nv:Int),v],.bool true])∧w'.ownsRow W.heap.size 165 5 v l.length (jw l)∧Fr [] W w')
 (hac:∀W v,aC B W b 1 s->(∃a n c,v=.slice a n c)->Rc 126 #[.p b,.agg #[.i f,.i t,.i m,.i (nv:Int),v]] W (.i en) λw'=>Fr [] W w'):
 Rc 80 #[.p b,.t tx] w (.tuple #[.i 0,.i en]) λw'=>aC B w' b 0 s∧Fr (foot b s) w w':=by
 have R1:=h.lock 1;obtain⟨w1,hw1⟩:=eX (w.setCell (Ad b 0) (.int .i32 1));rw[hw1]at R1;have HL:=lock_free Tryz.muLib (Ad b 0) w h.cells.1 (h.frozen 0);have F1:Fr (foot b s) w w1:=by rw[<-hw1];exact aV b s w _
 have HF:=Hj3 hw1 R1 F1;have HP:=Hd hp;have VQ:=Hd hac;clear h R1 F1 hw1 hp hac;go_enter_defers Tryz.func80,Tryz.ntmps80;go_wp2_with (first
  |(go_at_call 50;refine HL.mono ?_;rintro e w' ⟨rfl,hw'⟩;rw[HF.o.1]at hw';have hw':=hw'.symm;subst hw')
  |(go_at_call 125;refine(HP.o _).mono ?_;rintro e w2 ⟨v,rfl,o2,hfr⟩;obtain⟨va,vc,hva⟩:=ah o2;subst hva;have HR2:Hid (aC B (w2.alloc (.cells #[.i f,.i t,.i m,.i (nv:Int),.slice va l.length vc] 161)) b 1 s∧Fr (foot b s) w (w2.alloc (.cells #[.i f,.i t,.i m,.i (nv:Int),.slice va l.length vc] 161))):=⟨(HF.o.2.1.aA hfr).aA (fR.alloc _),(HF.o.2.2.trans hfr (by simp)).alloc _⟩;clear hfr o2)
  |(go_at_call 126;refine(VQ.o _ _ HR2.o.1 ⟨_,_,_,rfl⟩).mono ?_;rintro e w3 ⟨rfl,hfr⟩;have HR3:=Hj2 (HR2.o.1.aA hfr) (HR2.o.2.trans hfr (by simp));clear hfr))
 refine leaves_cons (f:=51) (args:=#[.p b]) (by simp) (by simp[go_sem]) ?_;refine(eK Tryz.muLib (Ad b 0) .returning _ HR3.o.1.cells.1 (HR3.o.1.frozen 0)).mono ?_;rintro e u' w'' ⟨rfl,rfl,rfl⟩;exact⟨_,ft rfl _ _ _,rfl,HR3.o.1.lock 0,HR3.o.2.setCell _ (Or.inl (by simp[foot]))⟩
section
variable {B:Nat}{w w' w1 w2 W:World}{b rb:Nat}{s s':aK}{r r' r0:ak}{q:Nat}
def QW(tx:cC)(f t m:Int)(nb:Nat)(l:List (Int×B4)):Prop:=∀W,Cl 125 #[.t tx] W λe w'=>∃v,e=.returned (.tuple #[.agg #[.i f,.i t,.i m,.i (nb:Int),v],.bool true])∧w'.ownsRow W.heap.size 165 5 v l.length (jw l)∧Fr [] W w'
theorem oD{t:Int}(h:Hs s t=false):fi (λy:Sn=>y.au==t) 0 s.ss=-1∧fi (λy:Int×Int=>y.1==t) 0 s.ms=-1∧t∉gls s:=by have hsp:=h;unfold Hs at hsp;rw[Bool.or_eq_false_iff,gR,gR]at hsp;refine⟨gB _ _ (λx hx=>by simpa using hsp.1 x hx),gB _ _ (λx hx=>by simpa using hsp.2 x hx),λhm=>?_⟩;have h9:=(BM (s:=s) t).2 hm;rw[h]at h9;cases h9
theorem Dn(tx:cC){f t mm:Int}{nb:Nat}{l:List (Int×B4)}(hP:QW tx f t mm nb l)(en:Int)(hen:(en==0)=false)(hA:∀(B b:Nat)(s:aK)(q:Nat)(W:World)(v:Value),dK s r q->aC B W b 1 s->(∃a n c,v=.slice a n c)->Rc 126 #[.p b,.agg #[.i f,.i t,.i mm,.i (nb:Int),v]] W (.i en) λw'=>Fr [] W w'):UC 80 (λb=>#[.p b,.t tx]) r (fI (0,en)) r:=
 UC.still λB b s q w rp m=>zm B b s tx w rp f t mm nb l en hen hP (λW v hW hv=>hA B b s q W v m hW hv)
theorem u_in(tx:cC){f t mm:Int}{nb:Nat}{l:List (Int×B4)}(ok:yZ tx f t mm nb l)(hP:QW tx f t mm nb l)(hb:nb=r.blocks∧JK r t=false∧f=aI r∧r.sh.length<12)(hf:∀s q,dK s r q->∀sv lv,dK (s.recv f t mm l tx sv lv) r' (q+1)):UC 80 (λb=>#[.p b,.t tx]) r (fI (t,0)) r':=UC.to λB b s q w rp m hq=>by
 obtain⟨m1,m2,m3,m4,m5,m6,m7⟩:=ok.may;have hlen:=ok.len;have hsize:=ok.size;have hbl:=m.bl;have hl12:=m.len;have hcm:=m.cm;have hcn:=m.cn;have qo:=m.lg;have hnb:(nb:Int)=(s.aL.length:Int):=by omega
 obtain⟨f1,f2,BD⟩:=oD (s:=s) (t:=t) (by rw[<-m.hs];exact hb.2.1);have hla:f=gy s.ss:=by rw[<-m.newest];exact hb.2.2.1
 have hri:∀k(hk:k<l.length),0≤l[k].1∧l[k].1<s.aL.length:=λk hk=>by have h1:=m7 k hk;have h2:=jd m7 k (by omega);omega
 have hP':QW tx f t mm s.aL.length l:=by
  have e:nb=s.aL.length:=by omega
  rw[<-e];exact hP
 refine(Bl B b s tx w rp f t mm l hP' (by have:=m.iQ;omega) hl12.2 f1 f2 hla hri hlen ⟨by omega,by omega⟩ ⟨by omega,by omega⟩ (by omega) hbl.2.2 (by unfold maxLen;omega) (by omega) (by omega)).mono ?_;rintro e9 w1 ⟨rfl,sv,lv,rp',f1',o1,o2⟩;exact⟨rfl,_,rp',hf s q m sv lv,f1',qJ rfl rfl o1 (λk hk=>Or.inl hk) o2⟩
theorem CW(h:Ok 1000000000 r)(tx:cC)(hz:tx.size≤2000000):∃c r',BC 80 81 (λb=>#[.p b,.t tx]) r (fI c) r'∧((c.2=0∨c.2=7)->∃f t m nb l,QW tx f t m nb l∧yZ tx f t m nb l∧(c.2=0->c.1=t)):=by
 obtain⟨s1,q1,n1,hq1,hwf⟩:=id h;have l1:=n1.iQ;have l2:=n1.len;have l3:=n1.pY;have hbl:=n1.bl;have hrn:=n1.rn;rcases Ez tx hz with⟨f,t,mm,nb,l,ok,hP,hR⟩|⟨hP,hR⟩
 .obtain⟨m1,m2,m3,m4,m5,m6,m7⟩:=ok.may;have hlen:=ok.len;have hsize:=ok.size;have l4:∀sv mv,({r with sv:=sv,mv:=mv}:ak).sh.length≤12:=λ_ _=>by show r.sh.length≤12;omega
  have l5:∀sv mv,({r with sv:=sv,mv:=mv}:ak).ms.length≤12:=λ_ _=>by show r.ms.length≤12;omega
  by_cases hnb:(nb:Int)=(r.blocks:Int)
  .by_cases hth:JK r t=true
   .refine⟨(0,7),r,⟨Dn tx hP 7 rfl (λB b s q W v m hW hv=>?_),RC.still λB b r0 w⟨sv,mv,hr⟩rp=>by subst hr;exact Bz B b _ tx w rp f t mm nb l.length l hR _ (.inr ⟨l4 _ _,l5 _ _,hnb,.inl ⟨hth,rfl⟩⟩),Ok.up⟩,λ_=>⟨f,t,mm,nb,l,hP,ok,λh=>absurd h (by decide)⟩⟩;rw[hnb,m.bl.1];have Mr:=hth;rw[m.hs]at Mr;rcases jv (λy:Sn=>y.au==t) s.ss with e|⟨j,hj,e,_⟩
    .rcases jv (λy:Int×Int=>y.1==t) s.ms with em|⟨i,hi,em,_⟩
     .exfalso;unfold Hs at Mr;rw[kz,fW,fW]at Mr;rcases Mr with h1|h1
      .obtain⟨j,_,e9,_⟩:=dx (p:=λx:Sn=>x.au==t) s.ss 0 h1;rw[e]at e9;omega
      obtain⟨j,_,e9,_⟩:=dx (p:=λx:Int×Int=>x.1==t) s.ms 0 h1;rw[em]at e9;omega
     exact wN B b 1 s f t mm v W hW m.len.1 m.len.2 hv e i em
    exact xA B b 1 s f t mm v j W hW m.len.1 hv e
   have zH:JK r t=false:=by simpa using hth
   by_cases hla:f=aI r
   .by_cases h12:r.sh.length=12
    .refine⟨(0,5),r,⟨Dn tx hP 5 rfl (λB b s q W v m hW hv=>?_),RC.still λB b r0 w⟨sv,mv,hr⟩rp=>by subst hr;exact Bz B b _ tx w rp f t mm nb l.length l hR _ (.inr ⟨l4 _ _,l5 _ _,hnb,.inr ⟨zH,.inr ⟨hla,by show 12≤r.sh.length;omega,rfl⟩⟩⟩),Ok.up⟩,λh=>by simp at h⟩;rw[hnb,m.bl.1];obtain⟨f1,f2,_⟩:=oD (s:=s) (t:=t) (by rw[<-m.hs];exact zH);exact zQ B b 1 s f t mm v W hW m.len.1 m.len.2 hv f1 f2 _ (.inr ⟨by rw[<-m.newest];exact hla,.inl ⟨by rw[<-m.iQ];exact h12,rfl⟩⟩)
    have hb:nb=r.blocks∧JK r t=false∧f=aI r∧r.sh.length<12:=⟨by omega,zH,hla,by omega⟩;have Vl:∀k(hk:k<l.length),0≤l[k].1∧l[k].1<16:=λk hk=>by have h1:=m7 k hk;have h2:=jd m7 k (by omega);omega
    have BD:∀{s q},dK s r q->t∉gls s:=λ{s q}m=>(oD (s:=s) (t:=t) (by rw[<-m.hs];exact zH)).2.2;by_cases h0:r.sh.length=0
    .have hf0:f=0:=by rw[hla];have:r.sh=[]:=List.length_eq_zero_iff.1 h0;unfold aI;rw[this];rfl
     subst hf0;have zF:∀s q,dK s r q->∀sv lv,dK (s.recv 0 t mm l tx sv lv) {r with now:=r.now+2,dat:=fD r.dat l,born:=fB (r.now+1) r.born l,sh:=r.sh++[⟨t,mm,0,r.now+2,fD r.dat l,fB (r.now+1) r.born l⟩],sv:=r.sv} (q+1):=λs q m sv lv=>m.Uz hwf.1 hwf.2.1 (by have:=m6 rfl;have:=m.bl;omega) (by rw[<-m.bl.1,<-hnb];exact m7) (BD m) m2 ⟨ok.m0,m4⟩ (by have:=m.iQ;omega) (by omega);refine⟨(t,0),_,⟨u_in tx ok hP hb zF,RC.to λB b r0 w⟨sv,mv,hr⟩rp=>?_,λn⟨s,q,m,hq,_⟩=>⟨_,_,zF s q m vn vn,by omega,by show(fD r.dat l).length=16;rw[tu];exact hwf.1,by show(fB _ r.born l).length=16;rw[tF];exact hwf.2.1,λx hx=>?_⟩⟩,λ_=>⟨0,t,mm,nb,l,hP,ok,λ_=>rfl⟩⟩
     .subst hr;refine(EM B b _ tx w rp 0 t mm nb l.length l hR (l4 _ _) (l5 _ _) hnb zH hla hb.2.2.2 rfl hlen Vl (by show 0≤r.now∧r.now≤1000000000000;omega) _ _ (.inl ⟨h0,rfl,rfl⟩)).mono ?_;rintro e w2 ⟨rfl,uU,rr,f2',o3⟩;exact⟨rfl,_,⟨uU,mv,rfl⟩,rr,f2',ku o3 (λk hk=>Or.inl hk)⟩
     rcases dT.1 hx with hx|hx
     .exact hwf.2.2 x hx
     have:=j8.1 hx;subst this;exact⟨by rw[tu];exact hwf.1,by rw[tF];exact hwf.2.1⟩
    have hy:r.sh[r.sh.length-1]?=some (r.sh[r.sh.length-1]'(by omega)):=dp (by omega);obtain⟨y,hyy⟩:=eX (r.sh[r.sh.length-1]'(by omega));rw[hyy]at hy;have Br:=hwf.2.2 y (eW hy);have zF:∀s q,dK s r q->∀sv lv,dK (s.recv f t mm l tx sv lv) {r with now:=r.now+2,dat:=fD y.dat l,born:=fB (r.now+1) y.born l,sh:=r.sh++[⟨t,mm,0,r.now+2,fD y.dat l,fB (r.now+1) y.born l⟩],sv:=r.sv} (q+1):=λs q m sv lv=>m.Uy hwf.2.2 (by rw[<-m.newest];exact hla) hy (by have:=m.iQ;omega) (BD m) m2 ⟨ok.m0,m4⟩ (by have:=m.iQ;omega) (by omega);refine⟨(t,0),_,⟨u_in tx ok hP hb zF,RC.to λB b r0 w⟨sv,mv,hr⟩rp=>?_,λn⟨s,q,m,hq,_⟩=>⟨_,_,zF s q m vn vn,by omega,by show(fD y.dat l).length=16;rw[tu];exact Br.1,by show(fB _ y.born l).length=16;rw[tF];exact Br.2,λx hx=>?_⟩⟩,λ_=>⟨f,t,mm,nb,l,hP,ok,λ_=>rfl⟩⟩
    .subst hr;refine(EM B b _ tx w rp f t mm nb l.length l hR (l4 _ _) (l5 _ _) hnb zH hla hb.2.2.2 rfl hlen Vl (by show 0≤r.now∧r.now≤1000000000000;omega) _ _ (.inr ⟨by show 0<r.sh.length;omega,y,hy,rfl,rfl⟩)).mono ?_;rintro e w2 ⟨rfl,uU,rr,f2',o3⟩;exact⟨rfl,_,⟨uU,mv,rfl⟩,rr,f2',ku o3 (λk hk=>Or.inl hk)⟩
    rcases dT.1 hx with hx|hx
    .exact hwf.2.2 x hx
    have:=j8.1 hx;subst this;exact⟨by rw[tu];exact Br.1,by rw[tF];exact Br.2⟩
   refine⟨(0,6),r,⟨Dn tx hP 6 rfl (λB b s q W v m hW hv=>?_),RC.still λB b r0 w⟨sv,mv,hr⟩rp=>by subst hr;exact Bz B b _ tx w rp f t mm nb l.length l hR _ (.inr ⟨l4 _ _,l5 _ _,hnb,.inr ⟨zH,.inl ⟨hla,rfl⟩⟩⟩),Ok.up⟩,λh=>by simp at h⟩;rw[hnb,m.bl.1];obtain⟨f1,f2,_⟩:=oD (s:=s) (t:=t) (by rw[<-m.hs];exact zH);exact zQ B b 1 s f t mm v W hW m.len.1 m.len.2 hv f1 f2 _ (.inl ⟨by rw[<-m.newest];exact hla,rfl⟩)
  exact⟨(0,6),r,⟨Dn tx hP 6 rfl (λB b s q W v m hW hv=>sI B b 1 s f t mm v W hW hv nb (by rw[<-m.bl.1];exact hnb)),RC.still λB b r0 w⟨sv,mv,hr⟩rp=>by subst hr;exact Bz B b _ tx w rp f t mm nb l.length l hR _ (.inl ⟨hnb,rfl⟩),Ok.up⟩,λh=>by simp at h⟩
 exact⟨(0,2),r,⟨UC.still λB b s q w rp m=>wO B b s tx w rp hP,RC.still λB b r0 w _ rp=>Bt b tx w hR,Ok.up⟩,λh=>by simp at h⟩
end
end Go.Proofs.YtjceeemlilnplaaGreatDoor
