import Derived.Test.YtjceeemlilnplaaGreatDoorM32
set_option maxRecDepth 100000
set_option maxHeartbeats 12800000
set_option linter.all false
namespace Go.Proofs.YtjceeemlilnplaaGreatDoor
open Go.RowKit Go.Maps Go.MuLone
structure Rp where
 last:Int
 rs:List (Int×Int)
 r:ak
structure pX(x:Rp):Prop where
 last:1≤x.last∧x.last≤12
 rs:Kp.oO x.rs=true
def kP(b:Nat)(x:Rp)(ra:Option Addr)(rc:Nat):Obj:=.cells #[.p b,.i x.last,.slice ra x.rs.length rc] 106 (0,0)
def kR(b:Nat)(x:Rp)(ra:Option Addr)(rc:Nat):Obj:=.cells #[.p b,.slice ra x.rs.length rc,.i x.last] 75 (0,0)
def KG(p:Pl)(w0:World)(F0:List Nat)(x:Rp)(n:Nat)(W:World):Prop:=∃F,Sk p.B W p.b F x.r n∧Bk F W p.xb (kP p.b x p.ra p.rc)∧Rw F W p.RB p.ra x.rs p.rc∧Gw F0 F w0 W
def KH(p:Pl)(w0:World)(F0:List Nat)(x:Rp)(n:Nat)(W:World):Prop:=∃F,iw p.B W p.b F x.r n∧Bk F W p.xb (kR p.b x p.ra p.rc)∧Rw F W p.RB p.ra x.rs p.rc∧Gw F0 F w0 W
section
variable {B xb pb b RB:Nat}{ra:Option Addr}{rc:Nat}{w w' w0 W W':World}{F F' F0 L:List Nat}{x:Rp}{n n':Nat}{r r':ak}{O:gq}{p:Pl}
theorem KG.same(h:KG p w0 F0 x n W)(f:Fr [] W W'):KG p w0 F0 x n W':=by obtain⟨F,a,b,c,d⟩:=h;exact⟨F,a.same f,b.same f,c.same f,d.trans (Gw.of f)⟩
theorem KH.same(h:KH p w0 F0 x n W)(f:Fr [] W W'):KH p w0 F0 x n W':=by obtain⟨F,a,b,c,d⟩:=h;exact⟨F,a.same f,b.same f,c.same f,d.trans (Gw.of f)⟩
theorem KG.up(h:KG p w0 F0 x n W)(hk:n≤n'):KG p w0 F0 x n' W:=by obtain⟨F,a,b,c,d⟩:=h;exact⟨F,a.le hk,b,c,d⟩
theorem KH.up(h:KH p w0 F0 x n W)(hk:n≤n'):KH p w0 F0 x n' W:=by obtain⟨F,a,b,c,d⟩:=h;exact⟨F,a.le hk,b,c,d⟩
theorem KG.ok(h:KG p w0 F0 x n W):Ok n x.r:=by obtain⟨F,a,_⟩:=h;exact a.2
theorem KH.ok(h:KH p w0 F0 x n W):Ok n x.r:=by obtain⟨F,a,_⟩:=h;exact a.2
theorem KG.cells(h:KG ⟨B,xb,pb,b,RB,ra,rc⟩ w0 F0 x n W):W.cell? (Ad xb 0)=some (.p b)∧W.cell? (Ad xb 1)=some (.i x.last)∧W.cell? (Ad xb 2)=some (.slice ra x.rs.length rc):=by obtain⟨F,a,h,c,d⟩:=h;exact⟨ce h.2 rfl,ce h.2 rfl,ce h.2 rfl⟩
theorem KH.cells(h:KH ⟨B,xb,pb,b,RB,ra,rc⟩ w0 F0 x n W):W.cell? (Ad xb 0)=some (.p b)∧W.cell? (Ad xb 2)=some (.i x.last)∧W.cell? (Ad xb 1)=some (.slice ra x.rs.length rc):=by obtain⟨F,a,h,c,d⟩:=h;exact⟨ce h.2 rfl,ce h.2 rfl,ce h.2 rfl⟩
theorem KG.call{f g:Nat}{args:Nat->Array Value}{v:Value}(h:KG p w0 F0 x n W)(hb:BC f g args x.r v r')(hn:n≤1000000000):Rc f (args p.b) W v λw'=>KG p w0 F0 {x with r:=r'} (n+1) w':=by obtain⟨F,a,b,c,d⟩:=h;refine(hb.u a hn).mono ?_;rintro e w' ⟨he,F',k',g'⟩;exact⟨he,F',k',b.step g',c.step g',d.trans g'⟩
theorem KH.call{f g:Nat}{args:Nat->Array Value}{v:Value}(h:KH p w0 F0 x n W)(hb:BC f g args x.r v r'):Rc g (args p.b) W v λw'=>KH p w0 F0 {x with r:=r'} (n+1) w':=by obtain⟨F,a,b,c,d⟩:=h;refine(hb.ref a).mono ?_;rintro e w' ⟨he,F',k',g'⟩;exact⟨he,F',k',b.step g',c.step g',d.trans g'⟩
theorem KG.newest(h:KG ⟨B,xb,pb,b,RB,ra,rc⟩ w0 F0 x n W):Rc 88 #[.p xb] W (.i (aI x.r)) λw'=>KG ⟨B,xb,pb,b,RB,ra,rc⟩ w0 F0 x n w':=by obtain⟨c0,c1,c2⟩:=h.cells;obtain⟨F,a,b',c,d⟩:=h;refine(yw (last:=x.last) (rv:=.slice ra x.rs.length rc) a ⟨c0,c1,c2⟩).mono ?_;rintro e w' ⟨he,k',g'⟩;exact⟨he,F,k',b'.step g',c.step g',d.trans g'⟩
theorem KG.greatest(h:KG ⟨B,xb,pb,b,RB,ra,rc⟩ w0 F0 x n W):Rc 144 #[.p xb] W (.i (vQ x.r)) λw'=>KG ⟨B,xb,pb,b,RB,ra,rc⟩ w0 F0 x n w':=by obtain⟨c0,c1,c2⟩:=h.cells;obtain⟨F,a,b',c,d⟩:=h;refine(Av (last:=x.last) (rv:=.slice ra x.rs.length rc) a ⟨c0,c1,c2⟩).mono ?_;rintro e w' ⟨he,k',g'⟩;exact⟨he,F,k',b'.step g',c.step g',d.trans g'⟩
theorem KH.newest(h:KH ⟨B,xb,pb,b,RB,ra,rc⟩ w0 F0 x n W):Rc 92 #[.p b] W (.i (aI x.r)) λw'=>KH ⟨B,xb,pb,b,RB,ra,rc⟩ w0 F0 x n w':=by obtain⟨F,a,b',c,d⟩:=h;refine(o8 a).mono ?_;rintro e w' ⟨he,f⟩;exact⟨he,F,a.same f,b'.same f,c.same f,d.trans (Gw.of f)⟩
theorem KG.thin(hO:bE O)(h:KG ⟨B,xb,pb,b,RB,ra,rc⟩ w0 F0 x n W)(ho:pX x)(now:Int)(oW:0≤now∧now≤1073741824)(hn:n+60≤1000000000):Rc 87 #[.p xb,.i now] W (.tuple #[]) λw'=>KG ⟨B,xb,pb,b,RB,ra,rc⟩ w0 F0 {x with r:=fq O now x.last x.rs x.r} (n+24) w':=by obtain⟨F,a,b',c,d⟩:=h;have hl:=ho.last;refine(Ih O hO B b xb RB n _ _ x.last now ra x.rs rc W F x.r a b' ⟨rfl,rfl,rfl⟩ c ho.rs ⟨by omega,by omega⟩ oW hn).mono ?_;rintro e w' ⟨he,F',k',g'⟩;exact⟨he,F',k',b'.step g',c.step g',d.trans g'⟩
theorem KH.thin(hO:bE O)(h:KH ⟨B,xb,pb,b,RB,ra,rc⟩ w0 F0 x n W)(ho:pX x)(now:Int)(oW:0≤now∧now≤1073741824)(hn:n+60≤1000000000):Rc 91 #[.p b,.i now,.i x.last,.slice ra x.rs.length rc] W (.tuple #[]) λw'=>KH ⟨B,xb,pb,b,RB,ra,rc⟩ w0 F0 {x with r:=fq O now x.last x.rs x.r} (n+24) w':=by obtain⟨F,a,b',c,d⟩:=h;have hl:=ho.last;refine(Ii O hO B b RB n x.last now ra x.rs rc W F x.r a c ho.rs ⟨by omega,by omega⟩ oW hn).mono ?_;rintro e w' ⟨he,F',k',g'⟩;exact⟨he,F',k',b'.step g',c.step g',d.trans g'⟩
theorem Cx(h:Ok n r):0≤vQ r∧vQ r≤1073741824:=by
 have h1:=h.len.2.2.2;unfold vQ;have key:∀(l:List aS)(m:Int),(∀y∈l,0≤y.time∧y.time≤1073741824)->0≤m∧m≤1073741824->0≤l.foldl (λm x=>max m x.time) m∧l.foldl (λm x=>max m x.time) m≤1073741824:=by
  intro l;induction l with
  |nil=>exactλm _ h=>h
  |cons y l ih=>
   intro m hy hm;have h2:=hy y (by simp);exact ih (max m y.time) (λz hz=>hy z (by simp[hz])) (by omega)
 exact key r.sh 0 (λy hy=>(h1 y hy).2) (by omega)
end
def dB(O:gq)(x:Rp)(tx:cC):(Int×Int)×Rp:=
 if(O.recv x.r tx).1.2=0 then((71,(O.recv x.r tx).1.1),{x with r:=fq O (vQ (O.recv x.r tx).2) x.last x.rs (O.recv x.r tx).2})
 else if(O.recv x.r tx).1.2=7 then((71,(bq (tx.extract 8 12).data.toList:Int)),{x with r:=(O.recv x.r tx).2})
 else((72,aI (O.recv x.r tx).2),{x with r:=(O.recv x.r tx).2})
section
variable {B xb pb b RB:Nat}{ra:Option Addr}{rc:Nat}{w w' w0 W W':World}{F F' F0 L:List Nat}{x:Rp}{n n':Nat}{r r':ak}{O:gq}{p:Pl}
theorem KG.O1(hO:bE O)(h:KG ⟨B,xb,pb,b,RB,ra,rc⟩ w0 F0 x n w)(ho:pX x)(tx:cC)(hsz:tx.size≤2000000)(hn:n+100≤1000000000):
 Rc 103 #[.p xb,.t tx] w (.tuple #[.u (dB O x tx).1.1,.i (dB O x tx).1.2]) λw'=>KG ⟨B,xb,pb,b,RB,ra,rc⟩ w0 F0 (dB O x tx).2 (n+25) w':=by
 obtain⟨P,hP⟩:∃P:Rp->Nat->World->Prop,P=KG ⟨B,xb,pb,b,RB,ra,rc⟩ w0 F0:=⟨_,rfl⟩;obtain⟨c0,_⟩:=h.cells;obtain⟨hb,hpa⟩:=hO.recv x.r tx (h.ok.le (by omega)) hsz;obtain⟨g,hg⟩:=eX (O.recv x.r tx).1.1;obtain⟨en,hen⟩:=eX (O.recv x.r tx).1.2;obtain⟨x1,hx1⟩:∃y,({x with r:=(O.recv x.r tx).2}:Rp)=y:=⟨_,rfl⟩;have hr1:(O.recv x.r tx).2=x1.r:=by rw[<-hx1]
 have HR:Hid (∀W,P x n W->Rc 80 #[.p b,.t tx] W (.tuple #[.i g,.i en]) λw'=>P x1 (n+1) w'):=by
  rw[hP];intro W hW;have h9:=hW.call hb (by omega);rw[hx1]at h9;have e9:fI (O.recv x.r tx).1=.tuple #[.i g,.i en]:=by rw[<-hg,<-hen];rfl
  rw[e9]at h9;exact h9
 have HF:Hid (∀x n W W',P x n W->Fr [] W W'->P x n W'):=by rw[hP];exactλ_ _ _ _ h f=>h.same f
 have H0:Hid (P x n w):=by rw[hP];exact h
 have ho1:pX x1:=by rw[<-hx1];exact⟨ho.last,ho.rs⟩
 have ZQ:Hid (∀W,P x1 (n+1) W->Rc 144 #[.p xb] W (.i (vQ x1.r)) λw'=>P x1 (n+1) w'):=by
  rw[hP]
  exactλW hW=>hW.greatest
 have O7:Hid (∀W,P x1 (n+1) W->Rc 87 #[.p xb,.i (vQ x1.r)] W (.tuple #[]) λw'=>P {x1 with r:=fq O (vQ x1.r) x1.last x1.rs x1.r} (n+25) w'):=by
  rw[hP]
  exactλW hW=>hW.thin hO ho1 _ (Cx hW.ok) (by omega)
 have jN:Hid (∀W,P x1 (n+1) W->Rc 88 #[.p xb] W (.i (aI x1.r)) λw'=>P x1 (n+25) w'):=by rw[hP];intro W hW;refine hW.newest.mono ?_;rintro e w' ⟨he,k'⟩;exact⟨he,k'.up (by omega)⟩
 rw[hen]at hpa;obtain⟨gt,hgt⟩:=eX (vQ x1.r);obtain⟨nw,hnw⟩:=eX (aI x1.r);by_cases e0:en=0
 .have e9:dB O x tx=((71,g),{x1 with r:=fq O (vQ x1.r) x1.last x1.rs x1.r}):=by unfold dB;rw[hen,if_pos e0,hg,hr1,<-hx1]
  rw[e9,<-hP];obtain⟨x2,hx2⟩:∃y,({x1 with r:=fq O (vQ x1.r) x1.last x1.rs x1.r}:Rp)=y:=⟨_,rfl⟩;rw[hx2]at O7⊢;rw[hgt]at O7 ZQ;have q0:(en==0)=true:=by simpa using e0
  clear h ho hP hb hpa hg hen hx1 hr1 ho1 e9 hx2 hgt hnw e0 hO;go_enter Tryz.func103,Tryz.ntmps103;go_wp2_with (go_at_call 80;refine(HR.o _ (by first|exact H0.o|exact HF.o _ _ _ _ H0.o fR.drew)).mono ?_;rintro e w1 ⟨rfl,k1⟩;have H1:=Hd k1;clear k1);first
   |go_region_with (first
    |(go_at_call 87;refine(O7.o _ (by first|exact H2.o|exact HF.o _ _ _ _ H2.o fR.drew)).mono ?_;rintro e w3 ⟨rfl,k3⟩;have H3:=Hd k3;clear k3)
    |(go_at_call 144;refine(ZQ.o _ (by first|exact H1.o|exact HF.o _ _ _ _ H1.o fR.drew)).mono ?_;rintro e w2 ⟨rfl,k2⟩;have H2:=Hd k2;clear k2))
   |fail
  all_goals
   go_wp2;go_ret2;exact⟨rfl,H3.o⟩
 have q0:(en==0)=false:=by simpa using e0
 by_cases e7:en=7
 .obtain⟨f,t,m,nb,l,hy,hs,_⟩:=hpa (Or.inr e7);have e9:dB O x tx=((71,t),x1):=by unfold dB;rw[hen,if_neg e0,if_pos e7,<-hs.tv,hx1]
  rw[e9,<-hP];have HY:Hid (∀W,P x1 (n+1) W->Cl 125 #[.t tx] W λe w'=>∃(ao:Option Addr)(cp:Nat),e=.returned (.tuple #[.agg #[.i f,.i t,.i m,.i (nb:Int),.slice ao l.length cp],.bool true])∧P x1 (n+25) w'):=by rw[hP];intro W hW;refine(hy W).mono ?_;rintro e w' ⟨v,he,ow,fr⟩;obtain⟨ao,cp,rfl⟩:=ah ow;exact⟨ao,cp,he,(hW.same fr).up (by omega)⟩
  have q7:(en==7)=true:=by simpa using e7
  clear h ho hP hb hpa hg hen hx1 hr1 ho1 e9 hgt hnw e0 e7 hO hy hs;go_enter Tryz.func103,Tryz.ntmps103;go_wp2_with (first
   |(go_at_call 125;refine(HY.o _ (by first|exact H1.o|exact HF.o _ _ _ _ H1.o fR.drew)).mono ?_;rintro e w2 ⟨ao,cp,rfl,k2⟩;have H2:=Hd k2;clear k2)
   |(go_at_call 80;refine(HR.o _ (by first|exact H0.o|exact HF.o _ _ _ _ H0.o fR.drew)).mono ?_;rintro e w1 ⟨rfl,k1⟩;have H1:=Hd k1;clear k1))
  go_quiet (fail)
  go_wp2;go_ret2;exact⟨rfl,HF.o _ _ _ _ H2.o (by first|exact(fR.alloc _).drewN _|exact fR.alloc _|exact fR)⟩
 have q7:(en==7)=false:=by simpa using e7
 have e9:dB O x tx=((72,nw),x1):=by unfold dB;rw[hen,if_neg e0,if_neg e7,hr1,hnw,<-hr1,hx1]
 rw[e9,<-hP];rw[hnw]at jN;clear h ho hP hb hpa hg hen hx1 hr1 ho1 e9 hgt hnw e0 e7 hO;go_enter Tryz.func103,Tryz.ntmps103;go_wp2_with (first
  |(go_at_call 88;refine(jN.o _ (by first|exact H1.o|exact HF.o _ _ _ _ H1.o fR.drew)).mono ?_;rintro e w2 ⟨rfl,k2⟩;have H2:=Hd k2;clear k2)
  |(go_at_call 80;refine(HR.o _ (by first|exact H0.o|exact HF.o _ _ _ _ H0.o fR.drew)).mono ?_;rintro e w1 ⟨rfl,k1⟩;have H1:=Hd k1;clear k1))
 go_ret2;exact⟨rfl,H2.o⟩
end
section
variable {B xb pb b RB:Nat}{ra:Option Addr}{rc:Nat}{w w' w0 W W':World}{F F' F0 L:List Nat}{s:Sc}{n n':Nat}{r r':ak}{O:gq}{p:Pl}{i:Nat}{nw:Int}
theorem PG.tick(hO:bE O)(h:PG ⟨B,xb,pb,b,RB,ra,rc⟩ w0 F0 s n w)(ho:fG s){K:Int}(hK:gI s K)(JW:K+1≤4000000000)(hn:n+100≤1000000000):
 Cl 41 #[.p xb] w λe w'=>∃v,e=.returned v∧PO ⟨B,xb,pb,b,RB,ra,rc⟩ w0 F0 (bC O s).2 (n+25) v (bC O s).1 w':=by
 obtain⟨i0,hi,hz0,hz1,hz2⟩:=info_parts CF;obtain⟨P,hP⟩:∃P:Sc->Nat->World->Prop,P=PG ⟨B,xb,pb,b,RB,ra,rc⟩ w0 F0:=⟨_,rfl⟩;obtain⟨c0,_,c6,_,c3⟩:=h.dI;obtain⟨m,hm⟩:=eX s.ps.length;by_cases ht:1073741824≤s.time
 .have HE:Hid (PO ⟨B,xb,pb,b,RB,ra,rc⟩ w0 F0 (bC O s).2 (n+25) (.slice none 0 0) (bC O s).1 w):=by unfold bC;rw[if_pos ht];exact(h.up (by omega)).o
  clear h ho hP;obtain⟨ti,hti⟩:=eX s.time;rw[hti]at c6 ht;go_enter Tryz.func41,Tryz.ntmps41;go_wp2;go_ret;exact⟨_,rfl,HE.o⟩
 obtain⟨k1,k2,k3,k4,k5,k6,k7⟩:=rY (O:=O) ho ht hK;obtain⟨s2,hs2⟩:=eX (fM O s);rw[hs2]at k1 k2 k3 k4 k5 k6 k7;obtain⟨nw,hnw⟩:=eX (aI s2.r);have hti:=ho.time;have hev:=ho.every;have ho1:fG {s with time:=s.time+1}:=⟨ho.every,ho.wait,ho.last,ho.rs,⟨by show 0≤s.time+1;omega,by show s.time+1≤_;omega⟩,ho.ps,λq hq=>by have:=ho.pr q hq;show _∧(_∧_≤s.time+1)∧_∧_∧_≤s.time+1;omega⟩;obtain⟨h1,z6⟩:=h.wE (s.time+1);obtain⟨w1,hw1⟩:=eX (w.setCell (Ad xb 6) (.i (s.time+1)));rw[hw1]at h1;have HH:Hid (bC O s=aP nw s2 m∧s2.ps.length=m∧m≤3∧fG s2∧gI s2 K∧(∀q∈s2.ps,q.tries+1≤s2.time)):=by refine⟨?_,by rw[k4];exact hm,by rw[<-hm];exact ho.ps.2,k1,k2,k3⟩;unfold bC;rw[if_neg ht,hs2,hnw,hm]
 have HF:Hid (∀s n W W',P s n W->Fr [] W W'->P s n W'):=by rw[hP];exactλ_ _ _ _ h f=>h.same f
 obtain⟨s1,hs1⟩:∃s1,({s with time:=s.time+1}:Sc)=s1:=⟨_,rfl⟩;obtain⟨st,hst⟩:∃st,({s1 with r:=fq O s1.time s1.last s1.rs s1.r}:Sc)=st:=⟨_,rfl⟩;obtain⟨ti,hte⟩:=eX s.time;obtain⟨ev,hee⟩:=eX s.every;have e1:s1.time=ti+1:=by rw[<-hs1,<-hte]
 have et:st.time=ti+1:=by rw[<-hst];exact e1
 rw[hs1]at h1 ho1;have H1:Hid (P s1 n w1):=by rw[hP];exact h1
 have zN:Hid (∀W,P s1 n W->W.cell? (Ad xb 0)=some (.p b)∧W.cell? (Ad xb 6)=some (.i (ti+1))∧W.cell? (Ad xb 3)=some (.i ev)):=by rw[hP];intro W hW;obtain⟨a,_,b',_,c⟩:=hW.dI;exact⟨a,by rw[<-e1];exact b',by rw[<-hee,show s.every=s1.every by rw[<-hs1]];exact c⟩
 have HT:Hid (∀W,P s1 n W->Rc 87 #[.p xb,.i (ti+1)] W (.tuple #[]) λw'=>P st (n+24) w'∧w'.cell? (Ad xb 0)=some (.p b)∧w'.cell? (Ad xb 6)=some (.i (ti+1))):=by rw[hP];intro W hW;have h9:=hW.thin hO ho1 (by omega);rw[hst,e1]at h9;refine h9.mono ?_;rintro e w' ⟨he,k'⟩;obtain⟨a,_,b',_,c⟩:=k'.dI;exact⟨he,k',a,by rw[<-et];exact b'⟩
 obtain⟨r0,hr0⟩:=eX ((ti+1)%ev);have XC:Int.tmod (ti+1) ev=r0:=by rw[<-hr0];exact ky (by omega)
 have HS:Hid (∀W,P st (n+24) W->r0=0->Cl 65 #[.p b,.i (ti+1)] W λe w'=>∃v:Value,e=.returned v∧P s2 (n+25) w'∧w'.cell? (Ad xb 0)=some (.p b)∧w'.cell? (Ad xb 6)=some (.i (ti+1))):=by
  rw[hP];intro W hW e0;refine(hW.call (hO.snap st.r (ti+1) (hW.ok.le (by omega))) (by omega)).mono ?_;rintro e w' ⟨he,k'⟩;have e9:({st with r:=(O.snap st.r (ti+1)).2}:Sc)=s2:=by
   have ec:(s.time+1)%s.every=0:=by rw[hte,hee,hr0];exact e0
   rw[<-hs2];unfold fM;rw[if_pos ec,<-hst,<-hs1,<-hte]
  rw[e9]at k';obtain⟨a,_,b',_,c⟩:=k'.dI;exact⟨_,he,k',a,by rw[<-hte,<-k5];exact b'⟩
 have XD:Hid (∀W,P s1 n W->r0≠0->P s2 (n+25) W):=by
  rw[hP];intro W hW e0;have e9:s1=s2:=by
   have ec:¬(s.time+1)%s.every=0:=by rw[hte,hee,hr0];exact e0
   rw[<-hs2];unfold fM;rw[if_neg ec,<-hs1]
  rw[<-e9];exact hW.up (by omega)
 have jN:Hid (∀W,P s2 (n+25) W->Rc 88 #[.p xb] W (.i nw) λw'=>P s2 (n+25) w'∧w'.cell? (Ad xb 7)=some (.slice (some (Ad pb 0)) m m)):=by rw[hP,<-hnw];intro W hW;refine hW.newest.mono ?_;rintro e w' ⟨he,k'⟩;exact⟨he,k',by rw[<-HH.o.2.1];exact k'.dI.2.2.2.1⟩
 obtain⟨Q,hQ⟩:∃Q:Nat->Value->World->Prop,Q=λk v W=>PO ⟨B,xb,pb,b,RB,ra,rc⟩ w0 F0 (aP nw s2 k).2 (n+25) v (aP nw s2 k).1 W:=⟨_,rfl⟩;have hl2:∀k,(aP nw s2 k).2.ps.length=m:=λk=>by rw[(eG k).2];exact HH.o.2.1
 have ht2:∀k,(aP nw s2 k).2.time=ti+1:=λk=>by rw[(eG k).1];show s2.time=_;rw[k5,hte]
 have QE:Hid (∀W,P s2 (n+25) W->Q 0 (.slice none 0 0) W):=by
  rw[hP,hQ]
  exactλW hW=>hW.o
 have VL:Hid (∀k v W W',Q k v W->Fr [] W W'->Q k v W'):=by
  rw[hQ]
  exactλk v W W' hW f=>PO.same hW f
 have VN:Hid (∀k v W,Q k v W->W.cell? (Ad xb 7)=some (.slice (some (Ad pb 0)) m m)∧W.cell? (Ad xb 6)=some (.i (ti+1))):=by rw[hQ];intro k v W hW;obtain⟨_,_,b',d,_⟩:=(PO.pg hW).dI;exact⟨by rw[<-hl2 k];exact d,by rw[<-ht2 k];exact b'⟩
 have XE:Hid (∀k v W,Q k v W->k<m->Rc 89 #[.pointer (some (Ad pb (k*7))),.i (ti+1),.i nw] W (.bool (jh ((aP nw s2 k).2.pr k) (ti+1) nw)) λw'=>Q k v w'):=by rw[hQ];intro k v W hW hk;refine((PO.pg hW).due (i:=k) (by rw[hl2];exact hk) (ti+1) nw).mono ?_;rintro e w' ⟨he,f⟩;exact⟨he,PO.same hW f⟩
 have ht3:s2.time=ti+1:=by rw[k5,hte]
 have XF:Hid (∀k v W,Q k v W->jh ((aP nw s2 k).2.pr k) (ti+1) nw=false->Q (k+1) v W):=by
  rw[hQ];intro k v W hW hd;have e9:aP nw s2 (k+1)=aP nw s2 k:=by show(if _ then _ else _)=_;rw[ht3,hd,if_neg (by simp)]
  show PO _ _ _ (aP nw s2 (k+1)).2 _ _ (aP nw s2 (k+1)).1 _;rw[e9];exact hW
 obtain⟨QA,Ir⟩:∃QA:Nat->Value->World->Prop,QA=λk v W=>PO ⟨B,xb,pb,b,RB,ra,rc⟩ w0 F0 (mP (aP nw s2 k).2 k) (n+25) v (aP nw s2 k).1 W:=⟨_,rfl⟩;have XG:Hid (∀k v W,Q k v W->k<m->Rc 90 #[.p xb,.i k] W (.agg #[.i k,.t (bU (aW 65 k (((aP nw s2 k).2.pr k).num+1)))]) λw'=>QA k v w'):=by rw[hQ,Ir];intro k v W hW hk;obtain⟨_,e2,_,e4,e5,e6⟩:=HH.o;exact PO.ask hW (nX e4 e5 JW e6 k (by omega)).1 (by rw[hl2];exact hk)
 have XH:Hid (∀k v W,Q k v W->W.ownsRow w0.heap.size 186 2 v (aP nw s2 k).1.length (iO (aP nw s2 k).1)∧w0.heap.size≤W.heap.size):=by
  rw[hQ]
  exactλk v W hW=>PO.own hW
 have Pg:Hid (∀k v W,QA k v W->W.ownsRow w0.heap.size 186 2 v (aP nw s2 k).1.length (iO (aP nw s2 k).1)∧w0.heap.size≤W.heap.size):=by
  rw[Ir]
  exactλk v W hW=>PO.own hW
 have XI:Hid (∀k v W W' g c,QA k v W->jh ((aP nw s2 k).2.pr k) (ti+1) nw=true->(W'.ownsRow w0.heap.size 186 2 (.slice (some (Ad g 0)) ((aP nw s2 k).1.length+1) c) ((aP nw s2 k).1.length+1) (iO (aP nw s2 k).1++[.i k,.t (bU (aW 65 k (((aP nw s2 k).2.pr k).num+1)))]))->W.grownBy W' v.ownBlock->(v.ownBlock=some g∨g=W.heap.size)->Q (k+1) (.slice (some (Ad g 0)) ((aP nw s2 k).1.length+1) c) W'):=by
  rw[Ir,hQ];intro k v W W' g c hW hd o1 g1 l1;have e9:aP nw s2 (k+1)=((aP nw s2 k).1++[((k:Int),bU (aW 65 k (((aP nw s2 k).2.pr k).num+1)))],mP (aP nw s2 k).2 k):=by show(if _ then _ else _)=_;rw[ht3,hd,if_pos rfl]
  show PO _ _ _ (aP nw s2 (k+1)).2 _ _ (aP nw s2 (k+1)).1 _;rw[e9];exact PO.push hW o1 g1 l1
 have yX:Hid (∀k v W W',QA k v W->Fr [] W W'->QA k v W'):=by
  rw[Ir]
  exactλk v W W' hW f=>PO.same hW f
 have XJ:Hid (∀k,k≤m->(aP nw s2 k).1.length≤k):=λk hk=>by obtain⟨_,e2,_,e4,e5,e6⟩:=HH.o;exact(nX e4 e5 JW e6 k (by omega)).2.2
 have Ph:Hid (∀v W,Q m v W->PO ⟨B,xb,pb,b,RB,ra,rc⟩ w0 F0 (bC O s).2 (n+25) v (bC O s).1 W):=by
  rw[hQ,HH.o.1]
  exactλv W hW=>hW
 obtain⟨PR,kY⟩:∃PR:Value->World->Prop,PR=λv W=>PO ⟨B,xb,pb,b,RB,ra,rc⟩ w0 F0 (bC O s).2 (n+25) v (bC O s).1 W:=⟨_,rfl⟩;have Ph:Hid (∀v W,Q m v W->PR v W):=by rw[kY];exact Ph
 show Cl 41 _ w λe w'=>∃v,e=.returned v∧(λv W=>PO ⟨B,xb,pb,b,RB,ra,rc⟩ w0 F0 (bC O s).2 (n+25) v (bC O s).1 W) v w';rw[<-kY];have Vy:m≤3:=HH.o.2.2.1;have XK:0≤ti∧ti<1073741824:=by rw[<-hte];omega
 have XL:1≤ev∧ev≤1000:=by rw[<-hee];exact hev
 have XM:ev≠0:=by omega
 rw[hte]at c6 hw1 ht;rw[hee]at c3;clear h h1 ho ho1 hP hm k1 k2 k3 k4 k5 k6 k7 hs2 hnw hti hev HH hs1 hst hte hee e1 et hr0 hQ hl2 ht2 ht3 Ir kY hO hK;obtain⟨b0,b6,b3⟩:=zN.o _ H1.o;go_enter Tryz.func41,Tryz.ntmps41;go_wp2;go_quiet (fail)
 go_upto_if 27 with fail;try rw[hw1]
 clear hw1 c0 c6 c3 z6;go_cut [] from 6 (λwx=>Hid (P s2 (n+25) wx))
 case first=>
  by_cases e0:r0=0
  .have q0:(r0==0)=true:=by simpa using e0
   go_wp2;go_region_held3 (λw'=>w'.cell? ⟨xb,6,none⟩=some (.int .i64 (ti+1)))
    (first
      |exact e26
      |go_keep)
    (first
      |(go_at_call 87;refine(HT.o _ (HF.o _ _ _ _ H1.o (by first|exact fR|exact fR.drewN _|exact(fR.drewN _).drew|exact fR.drew|exact(fR.drewN _).drewN _))).mono ?_;rintro e w2 ⟨rfl,t2,e20,e26⟩;have H2:=Hd t2;clear t2))
   go_wp2;go_region_held3 (λw'=>w'.cell? ⟨xb,6,none⟩=some (.int .i64 (ti+1))∧w'.cell? ⟨xb,0,none⟩=some (.pointer (some ⟨b,0,none⟩)))
    (first
      |exact⟨e36,e30⟩
      |go_keep)
    (first
      |(go_at_call 65;refine(HS.o _ (HF.o _ _ _ _ H2.o (by first|exact fR|exact fR.drewN _|exact(fR.drewN _).drew|exact fR.drew|exact(fR.drewN _).drewN _)) e0).mono ?_;rintro e w3 ⟨gg,rfl,t3,e30,e36⟩;have H3:=Hd t3;clear t3))
   go_wp2;go_meet;exact H3
  have q0:(r0==0)=false:=by simpa using e0
  have H3:=Hd (XD.o _ H1.o e0);go_wp2;go_meet;exact HF.o _ _ _ _ H3.o (by first|exact fR|exact fR.drewN _|exact(fR.drewN _).drew|exact fR.drew|exact(fR.drewN _).drewN _)
 case rest=>
 have H3:=Hd hcut;obtain⟨w3,hw3⟩:=eY wc;subst hw3;clear hcut H1 b0 b6 b3;go_wp2_with (first
  |(go_at_call 88;refine(jN.o _ (HF.o _ _ _ _ H3.o (by first|exact fR|exact fR.drewN _|exact(fR.drewN _).drew|exact fR.drew|exact(fR.drewN _).drewN _))).mono ?_;rintro e w4 ⟨rfl,t4,e47⟩;have H4:=Hd t4;clear t4))
 go_loopw [3,55] (λXO i wr=>∃(lv:Value)(k:Nat),XO=lv∧k≤m∧i=.i k∧Hid (Q k lv wr)) (λ_ i _=>m-(intOf i).toNat)
 case atStart=>exact⟨_,0,rfl,dC _,rfl,QE.o _ H4.o⟩
 obtain⟨lv,k,Iu,hk,rfl,HL⟩:=hrel;have hlv1:=Iu.symm;clear Iu;subst hlv1;obtain⟨W3,hW3⟩:=eY wr;subst hW3;clear H4 e47;by_cases hlt2:k<m
 .have hltz:(k:Int)<(m:Int):=by omega
  have k0:(0:Int)≤(k:Int):=by omega
  obtain⟨c37,cZ⟩:=VN.o _ _ _ HL.o;obtain⟨d,hd⟩:=eX (jh ((aP nw s2 k).2.pr k) (ti+1) nw);have HD:Hid (∀W,Fr [] W3 W->Rc 89 #[.pointer (some (Ad pb (k*7))),.i (ti+1),.i nw] W (.bool d) λw'=>Q k lv w'):=λW f=>by rw[<-hd];exact XE.o k lv W (VL.o _ _ _ _ HL.o f) hlt2
  have ZR:=Hd hd;clear hd;go_wp2;go_region_held3 (λw'=>w'.cell? ⟨xb,6,none⟩=some (.int .i64 (ti+1))∧w'.cell? ⟨xb,7,none⟩=some (.slice (some ⟨pb,0,none⟩) m m))
   (first
     |exact⟨SI,c57⟩
     |go_keep)
   (first
     |(go_at_call 89;refine(HD.o _ (by first|exact fR|exact fR.drew)).mono ?_;rintro e w5 ⟨rfl,f5⟩;have H5:=Hd f5;clear f5;obtain⟨c57,SI⟩:=VN.o _ _ _ H5.o))
  all_goals
   clear HL HD;cases d
   .go_wp2;go_roundw
    case rel=>exact⟨_,k+1,rfl,by omega,by go_num,XF.o _ _ _ H5.o ZR.o⟩
    simp[intOf];omega
   obtain⟨la,lc,hlv⟩:=ah (XH.o _ _ _ H5.o).1;have hlk:=XJ.o k (by omega);have HA:=Hd (XG.o k lv w5 H5.o hlt2);subst hlv;obtain⟨ln,hln⟩:=eX (aP nw s2 k).1.length;obtain⟨Tx,hTx⟩:=eX (bU (aW 65 k (((aP nw s2 k).2.pr k).num+1)));have OX:Hid (∀W W' g c,QA k (.slice la ln lc) W->(W'.ownsRow w0.heap.size 186 2 (.slice (some (Ad g 0)) (ln+1) c) (ln+1) (iO (aP nw s2 k).1++[.i k,.t Tx]))->W.grownBy W' (Value.slice la ln lc).ownBlock->((Value.slice la ln lc).ownBlock=some g∨g=W.heap.size)->Q (k+1) (.slice (some (Ad g 0)) (ln+1) c) W'):=λW W' g c q1 q2=>by have h9:=XI.o k (.slice la ln lc) W W' g c q1 ZR.o;rw[hln,hTx]at h9;exact h9 q2
   rw[hTx,hln]at HA;have Lv:Hid (∀W,QA k (.slice la ln lc) W->W.ownsRow w0.heap.size 186 2 (.slice la ln lc) ln (iO (aP nw s2 k).1)∧w0.heap.size≤W.heap.size):=λW q1=>by have h9:=Pg.o k _ W q1;rw[hln]at h9;exact h9
   rw[hln]at hlk⊢;clear hln hTx;go_wp2_with (first
    |(go_at_call 90;refine HA.o.mono ?_;rintro e w6 ⟨rfl,t6⟩;have H6:=Hd t6;clear t6;have Pj:w0.heap.size≤w6.heap.size:=(Lv.o _ H6.o).2)
    |(at_builtin;refine wpList_append_lies _ rfl _ _ 112 rfl w0.heap.size 186 i0 _ 2 24 Tryz.underlying112 hi hz0 hz1 hz2 rfl (by omega) (.slice la ln lc) ln (iO (aP nw s2 k).1) rfl ((Lv.o _ H6.o).1.alloc _) (Ad w6.heap.size 0) 1 1 [.i (k:Int),.t Tx] rfl (by simp) (World.news_of_block (cs:=#[.i (k:Int),.t Tx]) (t:=186) (fr:=(0,0)) (di w6 _)) (by simp[Value.oneCell']) (by omega) (by unfold maxLen;omega) (by omega) (by simp;omega) _ rfl ?_;intro g9 c9 w9 aH aJ vP D7;have H9:Hid (Q (k+1) (.slice (some (Ad g9 0)) (ln+1) c9) w9):=OX.o _ _ _ _ (yX.o _ _ _ _ H6.o (fR.alloc _)) aH aJ vP;clear aH aJ vP D7))
   go_roundw
   case rel=>exact⟨_,k+1,rfl,by omega,by go_num,H9⟩
   simp[intOf];omega
 have hltz:¬(k:Int)<(m:Int):=by omega
 have hkm:k=m:=by omega
 subst hkm;go_wp2;go_ret;exact⟨_,rfl,Ph.o _ _ HL.o⟩
end
end Go.Proofs.YtjceeemlilnplaaGreatDoor
