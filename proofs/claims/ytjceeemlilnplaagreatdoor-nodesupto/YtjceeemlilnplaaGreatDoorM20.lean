import Derived.Test.YtjceeemlilnplaaGreatDoorM17
set_option maxRecDepth 100000
set_option maxHeartbeats 12800000
set_option linter.all false
namespace Go.Proofs.YtjceeemlilnplaaGreatDoor
open Go.RowKit Go.Maps Go.MuLone
attribute [-go_sem] Instr.loadAt Instr.storeAt Instr.build Instr.buildSlice
theorem EM(B b:Nat)(s:ak)(tx:cC)(w:World)(h:aG B w b s)(f t m:Int)(nb ln:Nat)(l:List (Int×B4))(hp:∀W,Cl 127 #[.t tx] W λe w'=>∃vN vD,e=.returned (.tuple #[.agg #[.i f,.i t,.i m,.i (nb:Int),vN,vD],.bool true])∧w'.ownsRow W.heap.size 3 1 vN ln (l.map λx=>Value.i x.1)∧w'.ownsRow W.heap.size 9 1 vD ln (l.map λx=>Value.t x.2.ba)∧Fr [] W w')(hl:s.sh.length≤12)(hml:s.ms.length≤12)(hnb:(nb:Int)=s.blocks)(Dc:(s.sh.any (λx=>x.au==t)||s.ms.any (λx=>x.1==t))=false)(hfn:f=aI s)(h12:s.sh.length<12)(hln:l.length=ln)(BA:ln≤16)(hr:∀k(h:k<l.length),0≤l[k].1∧l[k].1<16)(oW:0≤s.now∧s.now≤1000000000000)(Dy:List cC)(By:List Int)(hY:(s.sh.length=0∧Dy=s.dat∧By=s.born)∨0<s.sh.length∧∃y,s.sh[s.sh.length-1]?=some y∧Dy=y.dat∧By=y.born):
 Rc 81 #[.p b,.t tx] w (.tuple #[.i t,.i 0]) λw'=>∃sv,aG B w' b {s with now:=s.now+2,dat:=fD Dy l,born:=fB (s.now+1) By l,sh:=s.sh++[⟨t,m,0,s.now+2,fD Dy l,fB (s.now+1) By l⟩],sv:=sv}∧Fr (aN b s) w w'∧(∀k,sv.ownBlock=some k->s.sv.ownBlock=some k∨w.heap.size≤k):=by
 have Bu:Hid (∀W,Cl 127 #[.t tx] W λe w'=>∃vN vD,e=.returned (.tuple #[.agg #[.i f,.i t,.i m,.i (nb:Int),vN,vD],.bool true])∧w'.ownsRow W.heap.size 3 1 vN ln (l.map λx=>Value.i x.1)∧w'.ownsRow W.heap.size 9 1 vD ln (l.map λx=>Value.t x.2.ba)∧Fr [] W w'):=hp;have HR:Hid (aG B w b s):=h;obtain⟨ao,cap,hsv⟩:=ah h.sh;obtain⟨sn,hsn⟩:=eX s.sh.length;rw[hsn]at hsv;obtain⟨sb,hsb⟩:=eX s.blocks;have lu:Hid (s.sv=.slice ao sn cap):=hsv;have uE:Hid (s.blocks=sb):=hsb;have hst:=sV;have l3:=LW;have UA:=wR;have hb2:((nb:Int) != (sb:Int))=false:=by rw[<-hsb];simp[hnb]
 have Ja:Hid (∀W,aG B W b s->Rc 119 #[.p b,.i t] W (.bool false) λw'=>w'=W):=λW hW=>by have h8:=iB B b s t W hW (by omega) (by omega);rw[Dc]at h8;exact h8
 have jN:Hid (∀W,aG B W b s->Rc 92 #[.p b] W (.i (aI s)) λw'=>Fr [] W w'):=λW hW=>iF B b s W hW hl;obtain⟨nw,hnw⟩:=eX (aI s);rw[hnw]at jN hfn;have hq:(f != nw)=false:=by simpa using hfn
 rw[hsn]at h12;have HC:=Hd hY;clear hY;have hq2:¬(12:Int)≤(sn:Int):=by omega
 have HL:Hid (l.length=ln∧s.sh.length=sn∧∀k(h:k<l.length),0≤l[k].1∧l[k].1<16):=⟨hln,hsn,hr⟩;obtain⟨z0,hz0⟩:=eX s.now;have HZ:Hid (s.now=z0):=hz0;rw[hz0]at oW;have p4:IntKind.i64.wrap (z0+1)=z0+1:=aD ⟨by omega,by omega⟩;have p5:IntKind.i64.wrap (z0+1+1)=z0+2:=by rw[show z0+1+1=z0+2 by omega];exact aD ⟨by omega,by omega⟩
 have Yf:=UE;have Yg:=UF;have l9:=VU;have s3:=sa3;have s9:=sa9;have s83:=UG;obtain⟨i0,hi0⟩:∃i0,Tryz.prog.info? 148=some i0:=by
  cases hq:Tryz.prog.info? 148 with
  |none=>have:=jK;rw[hq]at this;cases this
  |some i=>exact⟨i,rfl⟩
 have hi1:i0.size=36∧i0.bytes=416:=by have:=jK;rw[hi0]at this;simpa using this
 obtain⟨zz0,Jb,hzs⟩:∃z,i0.zero=some z∧z.cells.size=36:=by have:=oh;rw[hi0]at this;simpa using this
 clear hnb Dc hfn hnw hz0 hln hr;clear h hp hsv;go_enter Tryz.func81,Tryz.ntmps81;go_wp2_with (first
  |(go_at_call 127;refine(Bu.o _).mono ?_;rintro e w5 ⟨vN,vD,rfl,sW,hD5,f5⟩;obtain⟨na,nc,uV⟩:=ah sW;obtain⟨da,dc,uW⟩:=ah hD5;subst uV;subst uW;have dJ:Hid (aG B (w5.alloc (.cells #[.i f,.i t,.i m,.i (nb:Int),.slice na ln nc,.slice da ln dc] 221)) b s∧Fr [] w (w5.alloc (.cells #[.i f,.i t,.i m,.i (nb:Int),.slice na ln nc,.slice da ln dc] 221))):=⟨HR.o.aA (f5.alloc _),f5.alloc _⟩;obtain⟨_,c1,c2,c3,cZ,c37⟩:=dJ.o.1.cells;rw[lu.o]at cZ;rw[uE.o]at c1;have hb6:(w5.alloc (.cells #[.i f,.i t,.i m,.i (nb:Int),.slice na ln nc,.slice da ln dc] 221)).heap[w5.heap.size]?=some (.cells #[.i f,.i t,.i m,.i (nb:Int),.slice na ln nc,.slice da ln dc] 221 (0,0)):=di w5 _;have x0:(w5.alloc (.cells #[.i f,.i t,.i m,.i (nb:Int),.slice na ln nc,.slice da ln dc] 221)).cell? (Ad w5.heap.size 0)=some (.i f):=(ce hb6 rfl);have x1:(w5.alloc (.cells #[.i f,.i t,.i m,.i (nb:Int),.slice na ln nc,.slice da ln dc] 221)).cell? (Ad w5.heap.size 1)=some (.i t):=(ce hb6 rfl);have x2:(w5.alloc (.cells #[.i f,.i t,.i m,.i (nb:Int),.slice na ln nc,.slice da ln dc] 221)).cell? (Ad w5.heap.size 2)=some (.i m):=(ce hb6 rfl);have x3:(w5.alloc (.cells #[.i f,.i t,.i m,.i (nb:Int),.slice na ln nc,.slice da ln dc] 221)).cell? (Ad w5.heap.size 3)=some (.i nb):=(ce hb6 rfl);have jq:Hid ((w5.alloc (.cells #[.i f,.i t,.i m,.i (nb:Int),.slice na ln nc,.slice da ln dc] 221)).heap[w5.heap.size]?=some (.cells #[.i f,.i t,.i m,.i (nb:Int),.slice na ln nc,.slice da ln dc] 221 (0,0))∧((w5.alloc (.cells #[.i f,.i t,.i m,.i (nb:Int),.slice na ln nc,.slice da ln dc] 221)).ownsRow w.heap.size 3 1 (.slice na ln nc) ln (l.map λx=>Value.i x.1)∧(w5.alloc (.cells #[.i f,.i t,.i m,.i (nb:Int),.slice na ln nc,.slice da ln dc] 221)).ownsRow w.heap.size 9 1 (.slice da ln dc) ln (l.map λx=>Value.t x.2.ba))):=⟨hb6,sW.alloc _,hD5.alloc _⟩;clear hb6 sW hD5 f5 c2 c3 c37))
 obtain⟨bx,hbx⟩:=eX w5.heap.size;obtain⟨W6,lI⟩:=eX (w5.alloc (.cells #[.i f,.i t,.i m,.i (nb:Int),.slice na ln nc,.slice da ln dc] 221));rw[hbx]at x0 x1 x2 x3 jq;rw[lI]at dJ c1 cZ x0 x1 x2 x3 jq;rw[lI,hbx];clear lI hbx;go_quiet (fail)
 obtain⟨W7,oZ⟩:=eX (W6.drewN nq);have dS:Hid (Fr [] W6 W7):=by rw[<-oZ];exact fR.drewN _
 rw[oZ];clear oZ c1 cZ x0 x1 x2 x3;have jD:Hid (W7.heap[bx]?=some (.cells #[.i f,.i t,.i m,.i (nb:Int),.slice na ln nc,.slice da ln dc] 221 (0,0))∧(W7.ownsRow w.heap.size 3 1 (.slice na ln nc) ln (l.map λx=>Value.i x.1)∧W7.ownsRow w.heap.size 9 1 (.slice da ln dc) ln (l.map λx=>Value.t x.2.ba))):=⟨by rw[dS.o.block bx (cY.1 jq.o.1).1 (by simp)];exact jq.o.1,bD jq.o.2.1 dS.o,bD jq.o.2.2 dS.o⟩;have kS:Hid (aG B W7 b s∧Fr [] w W7):=⟨dJ.o.1.aA dS.o,dJ.o.2.trans dS.o (by simp)⟩;obtain⟨_,c1,c2,c3,cZ,c37⟩:=kS.o.1.cells;rw[lu.o]at cZ;rw[uE.o]at c1;have x0:W7.cell? (Ad bx 0)=some (.i f):=(ce jD.o.1 rfl);have x1:W7.cell? (Ad bx 1)=some (.i t):=(ce jD.o.1 rfl);have x2:W7.cell? (Ad bx 2)=some (.i m):=(ce jD.o.1 rfl);have x3:W7.cell? (Ad bx 3)=some (.i nb):=(ce jD.o.1 rfl);clear dJ jq dS c2 c3 c37;go_wp2_with (first
  |(go_at_call 119;refine(Ja.o _ (by first|exact kS.o.1)).mono ?_;rintro e w' ⟨rfl,hw'⟩;have hw'':=hw'.symm;subst hw''))
 have wS:Hid (∀W,Fr [] W7 W->Rc 92 #[.p b] W (.i nw) λw'=>Fr [] W7 w'∧w'.cell? (Ad bx 0)=some (.i f)∧w'.cell? (Ad b 36)=some (.slice ao sn cap)):=λW hW=>(jN.o W (kS.o.1.aA hW)).mono λe w'⟨h1,h2⟩=>⟨h1,hW.trans h2 (by simp),by rw[cell_of (by rw[(hW.trans h2 (by simp)).block bx (cY.1 jD.o.1).1 (by simp)];exact jD.o.1)];rfl,by rw[<-lu.o];exact(kS.o.1.aA (hW.trans h2 (by simp))).cells.2.2.2.2.1⟩;go_region_held3 (λw'=>w'.cell? (Ad bx 0)=some (.i f))
  (first|exact x0|go_keep)
  (first
    |(go_at_call 92;refine(wS.o _ (by first|exact fR|exact fR.drew|exact fR.drewN _)).mono ?_;rintro e w8 ⟨rfl,f8,x0,cZ⟩;have H8:Hid (Fr [] W7 w8):=f8;clear f8))
 all_goals
  have J3:Hid (l7 B b s w w8 s bx f t m nb na nc da dc ln l):=by refine l7.same (W:=W7) ?_ H8.o;exact⟨kS.o.1,Fr.mono kS.o.2 (by simp),jD.o.1,jD.o.2.1,jD.o.2.2⟩
  obtain⟨W1,hW1⟩:=eX (w8.setCell (Ad b 2) (.i (z0+1)));have HT1:Hid (l7 B b s w W1 {s with now:=z0+1} bx f t m nb na nc da dc ln l):=by rw[<-hW1];exact J3.o.now (z0+1)
  have d2:w8.cell? (Ad b 2)=some (.i z0):=by rw[<-HZ.o];exact J3.o.rep.cells.2.2.1
  have e2:=J3.o.rep.frozen 2;have Yh:W1.cell? (Ad b 36)=some (.slice ao sn cap):=by rw[<-lu.o];exact HT1.o.rep.cells.2.2.2.2.1
  clear c1;rcases HC.o with⟨h0,hD,hB⟩|⟨h0,y,hy,hD,hB⟩
  case' inl=>
   have hq3:¬(0:Int)<(sn:Int):=by rw[HL.o.2.1]at h0;omega
   have UH:Hid (l7 B b s w W1 {s with now:=z0+1,dat:=fD Dy (l.take 0),born:=fB (z0+1) By (l.take 0)} bx f t m nb na nc da dc ln l):=by rw[hD,hB];exact HT1.o
   clear h0 hD hB HC;go_wp2;clear d2 e2 Yh hW1 hq2 hq3
  case' inr=>
   have HY:=Hd hy;have HD:=Hj2 hD hB;rw[HL.o.2.1]at h0;clear hy hD hB HC;have hq3:(0:Int)<(sn:Int):=by omega
   obtain⟨Di,Yk,hcap0,_⟩:=bR (by have h9:=HT1.o.rep.sh;rw[show({s with now:=z0+1}:ak).sv=s.sv from rfl,lu.o,show({s with now:=z0+1}:ak).sh.length=s.sh.length from rfl,HL.o.2.1]at h9;exact h9) (by omega:0<sn);subst Yk;obtain⟨p,hp⟩:=eX (sn-1);have hp1:IntKind.i64.wrap ((sn:Int)-1)=(p:Int):=by rw[show(sn:Int)-1=(p:Int) by omega];exact aD ⟨by omega,by omega⟩
   have hp0:(0:Int)≤(p:Int):=by omega
   have hp2:(p:Int)<(sn:Int):=by omega
   have hps:p<s.sh.length:=by rw[HL.o.2.1];omega
   have hyp:s.sh[p]=y:=by
    have h8:=(df.1 HY.o).2;have e8:s.sh.length-1=p:=by rw[HL.o.2.1];exact hp
    simp only[e8]at h8;exact h8
   have Br:y.wf:=J3.o.rep.wf y (by rw[<-hyp];exact eE _);have hcy:(bG y.dat++aT y.born).length=32:=by simp[bG,aT,Br.1,Br.2]
   have hrg:W1.rangeAt Di (p*36+4) (bG y.dat++aT y.born):=λj v hv=>by
    have hj:j<32:=by have:=(df.1 hv).1;omega
    have h9:=HT1.o.rep.fE (gg:=Di) (cap:=cap) (by rw[show({s with now:=z0+1}:ak).sv=s.sv from rfl,lu.o,show({s with now:=z0+1}:ak).sh.length=s.sh.length from rfl,HL.o.2.1]) p hps (4+j) (by omega);rw[show p*36+4+j=p*36+(4+j) by omega,h9];show(s.sh[p].cells)[4+j]?=some v;rw[hyp];unfold aS.cells;rw[eC (by simp),show 4+j - [Value.i y.au,.i y.time,.i y.holds,.i y.came].length=j by simp];exact hv
   have hlA:=run_loadAt_mid (P:=Tryz.prog) W1 Di (p*36+4) 142 _ _ hrg Tryz.underlying142 rfl (by rw[hcy];exact gZ);have hlB:=run_loadAt_mid (P:=Tryz.prog) W1.drew Di (p*36+4) 142 _ _ hrg Tryz.underlying142 rfl (by rw[hcy];exact gZ);have hone:(bG y.dat++aT y.born).toArray.all (·.oneCell')=true:=all_oneCell_toArray (λu hu=>by simp only[dT,bG,aT,fm]at hu;rcases hu with⟨_,_,rfl⟩|⟨_,_,rfl⟩<;>rfl);have htr:W1.there b 4 (bG y.dat++aT y.born).toArray.size:=by rw[List.size_toArray,hcy];exact HT1.o.rep.PX
   have hsA:=run_storeAt_mid (P:=Tryz.prog) W1 b 4 142 (bG y.dat++aT y.born).toArray htr (by rw[List.size_toArray,hcy];exact gZ) hone;have hsB:=run_storeAt_mid (P:=Tryz.prog) W1.drew b 4 142 (bG y.dat++aT y.born).toArray htr (by rw[List.size_toArray,hcy];exact gZ) hone;rw[List.toList_toArray]at hsA hsB;obtain⟨W2,hW2⟩:=eX (W1.setCells b 4 (bG y.dat++aT y.born));obtain⟨W2d,PY⟩:=eX (W1.drew.setCells b 4 (bG y.dat++aT y.born));have HT2:Hid (l7 B b s w W2 {s with now:=z0+1,dat:=y.dat,born:=y.born} bx f t m nb na nc da dc ln l):=by rw[<-hW2];exact HT1.o.aL y.dat y.born Br.1 Br.2
   have Yl:Hid (l7 B b s w W2d {s with now:=z0+1,dat:=y.dat,born:=y.born} bx f t m nb na nc da dc ln l):=by rw[<-PY];exact(HT1.o.same fR.drew).aL y.dat y.born Br.1 Br.2
   obtain⟨V0,Tt⟩:=eX (Value.agg (bG y.dat++aT y.born).toArray);rw[Tt]at hlA hlB hsA hsB;rw[hW2]at hsA;rw[PY]at hsB;clear Tt hW2 PY hone htr hrg hcy Br hyp hps hp;go_wp2;go_region;go_wp2;clear d2 e2 Yh hW1 hq2 hq3 hlA hlB hsA hsB hp0 hp1 hp2 W2 HT2;have UH:Hid (l7 B b s w W2d {s with now:=z0+1,dat:=fD Dy (l.take 0),born:=fB (z0+1) By (l.take 0)} bx f t m nb na nc da dc ln l):=by rw[HD.o.1,HD.o.2];exact Yl.o
   obtain⟨ao,hao⟩:=eX (some (Ad Di 0));rw[hao]at lu ⊢;clear hao HD HY
  all_goals
   go_loopw [9] (λi wr=>∃k:Nat,k≤ln∧i=.i k∧Hid (l7 B b s w wr {s with now:=z0+1,dat:=fD Dy (l.take k),born:=fB (z0+1) By (l.take k)} bx f t m nb na nc da dc ln l)) (λi _=>ln-(intOf i).toNat)
   case atStart=>exact⟨0,dC _,rfl,UH⟩
   obtain⟨k,hk,rfl,HK⟩:=hrel;obtain⟨W3,hW3⟩:=eY wr;subst hW3;obtain⟨x0,x1,x2,x3,x4,x5⟩:=HK.o.xs;by_cases hlt:k<ln
   .have hltz:(k:Int)<(ln:Int):=by omega
    have hk0:(0:Int)≤(k:Int):=by omega
    have hll:k<l.length:=by rw[HL.o.1];exact hlt
    have hnr:=HK.o.nr;have hdr:=HK.o.dr;obtain⟨ng,BD,MG,hcn⟩:=bR hnr (by omega);obtain⟨dg,hdg,hc8,hcd⟩:=bR hdr (by omega);obtain⟨j,hj⟩:∃j:Nat,l[k].1=(j:Int):=⟨l[k].1.toNat,by have:=HL.o.2.2 k hll;omega⟩;have uw:j<16:=by have:=HL.o.2.2 k hll;omega
    obtain⟨xd,hxd⟩:=eX l[k].2.ba;have j0:(0:Int)≤(j:Int):=by omega
    have j1:(j:Int)<16:=by omega
    rw[BD]at x4;rw[hdg]at x5;have n0:W3.cell? (Ad ng k)=some (.i j):=by rw[hcn k (by omega)];simp[hll,hj]
    have n1:W3.cell? (Ad dg k)=some (.t xd):=by rw[hcd k (by omega)];simp[hll,hxd]
    have v2:W3.cell? (Ad b 2)=some (.i (z0+1)):=HK.o.rep.cells.2.2.1;obtain⟨o4,v4⟩:∃o4,W3.cell? (Ad b (4+j))=some (.t o4):=⟨_,HK.o.rep.dat j uw⟩;have e4:=HK.o.rep.frozen (4+j);obtain⟨g1,g2,g3⟩:=HK.o.far;have g2':ng≠b:=g2 ng (by rw[BD];rfl);have Gz:=HK.o.blk j uw xd (z0+1);obtain⟨W4,iI⟩:=eX (W3.setCell (Ad b (4+j)) (.t xd));have R4:aG B W4 b {s with now:=z0+1,dat:=(fD Dy (l.take k)).set j xd,born:=fB (z0+1) By (l.take k)}:=by rw[<-iI];exact HK.o.rep.put (4+j) (.t xd) (lZ _ HK.o.rep.j6 j uw xd) (by simp[HK.o.rep.j6]) HK.o.rep.b16 rfl rfl rfl rfl
    have u2:W4.cell? (Ad b 2)=some (.i (z0+1)):=R4.cells.2.2.1;obtain⟨UJ,u20⟩:∃UJ,W4.cell? (Ad b (20+j))=some (.i UJ):=⟨_,R4.BF j uw⟩;have e20:=R4.frozen (20+j);have ux4:W4.cell? (Ad bx 4)=some (.slice (some (Ad ng 0)) ln nc):=by rw[<-iI,du (de _ _ _ _ g1)];exact x4
    have ZH:W4.cell? (Ad ng k)=some (.i j):=by rw[<-iI,du (de _ _ _ _ g2')];exact n0
    rw[iI]at Gz;have HE:Hid (l7 B b s w (W4.setCell (Ad b (20+j)) (.i (z0+1))) {s with now:=z0+1,dat:=fD Dy (l.take (k+1)),born:=fB (z0+1) By (l.take (k+1))} bx f t m nb na nc da dc ln l):=by rw[Df _ _ _ hll,Dh _ _ _ _ hll,hj,hxd];exact Gz
    clear hnr hdr hcn hcd Gz R4 hj hxd g1 g2 g3 g2' BD hdg HK;go_wp2;go_region;all_goals
     go_wp2;go_region;all_goals
      go_wp2;go_roundw
      case rel=>exact⟨k+1,by omega,by go_num,by first|exact HE.o|exact HE.o.same fR.drew|exact HE.o.same fR.drew.drew⟩
      simp[intOf];omega
   have hkk:k=ln:=by omega
   subst hkk;have htk:l.take k=l:=eL (by have:=HL.o.1;omega);obtain⟨D1,hD1⟩:=eX (fD Dy l);obtain⟨B1,hB1⟩:=eX (fB (z0+1) By l);rw[htk,hD1,hB1]at HK;have LX:Hid (fD Dy l=D1∧fB (z0+1) By l=B1):=⟨hD1,hB1⟩;clear htk hD1 hB1;obtain⟨W5,kJ⟩:=eX (W3.setCell (Ad b 2) (.i (z0+2)));have wT:Hid (l7 B b s w W5 {s with now:=z0+2,dat:=D1,born:=B1} bx f t m nb na nc da dc k l):=by rw[<-kJ];exact HK.o.now (z0+2)
   have v2:W3.cell? (Ad b 2)=some (.i (z0+1)):=HK.o.rep.cells.2.2.1;have e2:=HK.o.rep.frozen 2;have R5:=wT.o.rep;have wU:D1.length=16:=R5.j6;have qj:B1.length=16:=R5.b16;have v52:W5.cell? (Ad b 2)=some (.i (z0+2)):=R5.cells.2.2.1;have wV:W5.cell? (Ad b 36)=some (.slice ao sn cap):=by rw[<-lu.o];exact R5.cells.2.2.2.2.1
   have f36:=R5.frozen 36;obtain⟨_,y1,y2,_,_,_⟩:=wT.o.xs;have hcl:(bG D1++aT B1).length=32:=by simp[bG,aT,wU,qj]
   have Jc:=run_loadAt_mid (P:=Tryz.prog) W5 b 4 142 _ _ (λj v hv=>R5.range j v hv) Tryz.underlying142 rfl (by rw[hcl];exact gZ);have Jd:=run_loadAt_mid (P:=Tryz.prog) W5.drew b 4 142 _ _ (λj v hv=>R5.range j v hv) Tryz.underlying142 rfl (by rw[hcl];exact gZ);have sZ:∀W,_:=λW=>kT t m (z0+2) W _ hcl;obtain⟨X,hX⟩:=eX (Value.i t::.i m::.i 0::.i (z0+2)::(bG D1++aT B1));have J4:X.length=36:=by rw[<-hX];simp only[il,hcl]
   have zq:∀W,_:=λW=>kU W X J4;rw[hX]at sZ;have hX1:∀u∈X,u.oneCell'=true:=by rw[<-hX];intro u hu;simp only[ek,dT,bG,aT,fm]at hu;rcases hu with rfl|rfl|rfl|rfl|⟨_,_,rfl⟩|⟨_,_,rfl⟩<;>rfl
   obtain⟨V,hV⟩:=eX (Value.agg (bG D1++aT B1).toArray);obtain⟨U,hU⟩:=eX (Value.agg X.toArray);have hla:(Instr.loadAt 142 (.pointer (some (Ad b 4)))).run Tryz.prog W5=.ok V W5:=by rw[<-hV];exact Jc
   have hlb:(Instr.loadAt 142 (.pointer (some (Ad b 4)))).run Tryz.prog W5.drew=.ok V W5.drew:=by rw[<-hV];exact Jd
   have hbd:∀W,(Instr.build 148 #[(0,.i t),(1,.i m),(3,.i (z0+2)),(4,V)]).run Tryz.prog W=.ok U W:=by rw[<-hV,<-hU];exact sZ
   have hbs:∀W,(Instr.buildSlice 143 1 #[(0,U)]).run Tryz.prog W=.ok (.slice (some (Ad W.heap.size 0)) 1 1) (W.alloc (.cells X.toArray 148)):=by rw[<-hU];exact zq
   have HX:Hid ((⟨t,m,0,z0+2,D1,B1⟩:aS).cells=X∧(⟨t,m,0,z0+2,D1,B1⟩:aS).wf):=⟨hX,wU,qj⟩;have HO:Hid (W5.ownsRow B 148 36 (.slice ao sn cap) sn (bS s.sh)):=by have h9:=R5.sh;rw[show({s with now:=z0+2,dat:=D1,born:=B1}:ak).sv=s.sv from rfl,lu.o,show({s with now:=z0+2,dat:=D1,born:=B1}:ak).sh.length=s.sh.length from rfl,HL.o.2.1]at h9;exact h9
   have hne:(Value.slice ao sn cap).ownBlock≠some b:=λe=>(R5.apart.1 b (by rw[show({s with now:=z0+2,dat:=D1,born:=B1}:ak).sv=s.sv from rfl,lu.o];exact e)).1 rfl;have hnx:(Value.slice ao sn cap).ownBlock≠some bx:=λe=>by obtain⟨_,cur,h4⟩:=av HO.o e;rw[wT.o.box]at h4;simp at h4
   have lb':b<W5.heap.size:=(R5.lt b (by simp[aN])).2;have LY:bx<W5.heap.size:=(cY.1 wT.o.box).1;have hBw:B≤W5.heap.size:=by have:=R5.hb;omega
   have vY:Hid (∀W:World,W.heap[b]?=W5.heap[b]?->W.heap[bx]?=W5.heap[bx]?->(W.cell? (Ad bx 1)=some (.i t)∧W.cell? (Ad bx 2)=some (.i m)∧W.cell? (Ad b 2)=some (.i (z0+2))∧(Instr.loadAt 142 (.pointer (some (Ad b 4)))).run Tryz.prog W=.ok V W)):=λW e1 e2=>by
    refine⟨?_,?_,?_,?_⟩
    .rw[du e2];exact y1
    .rw[du e2];exact y2
    .rw[du e1];exact v52
    rw[<-hV];exact run_loadAt_mid (P:=Tryz.prog) W b 4 142 _ _ (λj v hv=>by rw[du e1];exact R5.range j v hv) Tryz.underlying142 rfl (by rw[hcl];exact gZ)
   have yH:Hid (∀(w9:World)(v9:Value),w9.heap[b]?=W5.heap[b]?->w9.heap[bx]?=W5.heap[bx]?->((w9.setCell (Ad b 36) v9).cell? (Ad bx 1)=some (.i t)∧(w9.setCell (Ad b 36) v9).cell? (Ad bx 2)=some (.i m)∧(w9.setCell (Ad b 36) v9).cell? (Ad b 2)=some (.i (z0+2))∧(Instr.loadAt 142 (.pointer (some (Ad b 4)))).run Tryz.prog (w9.setCell (Ad b 36) v9)=.ok V (w9.setCell (Ad b 36) v9))):=λw9 v9 e1 e2=>by
    have IX:w9.heap[b]?=some (.cells ({s with now:=z0+2,dat:=D1,born:=B1}:ak).cells.toArray 146 (0,0)):=by rw[e1];exact R5.blk
    have PW:bx≠b:=wT.o.far.1;have TQ:=dy w9 b 36 _ _ v9 IX;have cZ:=qF ({s with now:=z0+2,dat:=D1,born:=B1}:ak) wU qj v9;have hcell:∀j,j≠36->(w9.setCell (Ad b 36) v9).cell? (Ad b j)=W5.cell? (Ad b j):=λj hj=>by rw[cell_of TQ,cell_of R5.blk];simp[Ne.symm hj]
    have e3:(w9.setCell (Ad b 36) v9).heap[bx]?=W5.heap[bx]?:=by rw[de _ _ _ _ PW];exact e2
    refine⟨?_,?_,?_,?_⟩
    .rw[du e3];exact y1
    .rw[du e3];exact y2
    .rw[hcell 2 (by omega)];exact v52
    rw[<-hV];refine run_loadAt_mid (P:=Tryz.prog) _ b 4 142 _ _ (λj v hv=>?_) Tryz.underlying142 rfl (by rw[hcl];exact gZ);have hj:j<32:=by have:=(df.1 hv).1;omega
    rw[hcell (4+j) (by omega)];exact R5.range j v hv
   have q0:=vY.o W5 rfl rfl;have q1:=vY.o W5.drew rfl rfl;have q2:=vY.o (W5.alloc (.cells X.toArray 148)) (ei W5 _ b lb') (ei W5 _ bx LY);have q3:=vY.o (W5.alloc (.cells X.toArray 148)).drew (ei W5 _ b lb') (ei W5 _ bx LY);clear Jc Jd sZ zq hU hX R5 Ja jN wS Bu kS jD H8 J3 HT1 UH HK;go_wp2;clear v2 e2 kJ p5 s3 Yf Yg l9 s9 hst hb2 hq p4 x0 x1 x2 x3 x4 x5 hla hlb hV hcl wU qj;obtain⟨AG,UK⟩:=eX (Value.agg #[.i f,.i t,.i m,.i (nb:Int),.slice na k nc,.slice da k dc]);rw[UK];obtain⟨TU,UL⟩:=eX (Value.tuple #[AG,.bool true]);rw[UL];clear UK UL;refine wp_region_held_drew (S:=(λw'=>w'.cell? (Ad bx 1)=some (.i t)∧w'.cell? (Ad bx 2)=some (.i m)∧w'.cell? (Ad b 2)=some (.i (z0+2))∧(Instr.loadAt 142 (.pointer (some (Ad b 4)))).run Tryz.prog w'=.ok V w')) (by kernel_rfl) q1 (λhHeld=>?_);refine wpAnyH_take (i:=0) (v:=?_) rfl (by kernel_rfl) (by kernel_rfl) (by kernel_rfl) (λ_ _ _ h=>h) (Or.inl ⟨by rfl,?_⟩) (by assumption) ?_;rotate_left
   .intro w hSw
    (try dsimp only at hSw)
    go_simp;try with_reducible rfl
   try simp only[Act.put]
   refine wpAnyH_take (i:=1) (v:=?_) rfl (by kernel_rfl) (by kernel_rfl) (by kernel_rfl) (λ_ _ _ h=>h) (Or.inl ⟨by rfl,?_⟩) (by assumption) ?_;rotate_left
   .intro w hSw
    (try dsimp only at hSw)
    go_simp;try with_reducible rfl
   try simp only[Act.put]
   refine wpAnyH_take (i:=2) (v:=?_) rfl (by kernel_rfl) (by kernel_rfl) (by kernel_rfl) (λ_ _ _ h=>h) (Or.inl ⟨by rfl,?_⟩) (by assumption) ?_;rotate_left
   .intro w hSw
    (try dsimp only at hSw)
    go_simp;try with_reducible rfl
   try simp only[Act.put]
   refine wpAnyH_take (i:=3) (v:=?_) rfl (by kernel_rfl) (by kernel_rfl) (by kernel_rfl) (λ_ _ _ h=>h) (Or.inl ⟨by rfl,?_⟩) (by assumption) ?_;rotate_left
   .intro w hSw
    (try dsimp only at hSw)
    go_simp;try with_reducible rfl
   try simp only[Act.put]
   refine wpAnyH_take (i:=5) (v:=?_) rfl (by kernel_rfl) (by kernel_rfl) (by kernel_rfl) (λ_ _ _ h=>h) (Or.inl ⟨by rfl,?_⟩) (by assumption) ?_;rotate_left
   .intro w hSw
    (try dsimp only at hSw)
    go_simp;try with_reducible rfl
   try simp only[Act.put]
   refine wpAnyH_take (i:=6) (v:=?_) rfl (by kernel_rfl) (by kernel_rfl) (by kernel_rfl) (λ_ _ _ h=>h) (Or.inl ⟨by rfl,?_⟩) (by assumption) ?_;rotate_left
   .intro w hSw
    (try dsimp only at hSw)
    go_simp;try with_reducible rfl
   try simp only[Act.put]
   refine wpAnyH_take (i:=7) (v:=?_) rfl (by kernel_rfl) (by kernel_rfl) (by kernel_rfl) (λ_ _ _ h=>h) (Or.inl ⟨by rfl,?_⟩) (by assumption) ?_;rotate_left
   .intro w hSw
    (try dsimp only at hSw)
    go_simp;try with_reducible rfl
   try simp only[Act.put]
   refine wpAnyH_take (i:=8) (v:=?_) rfl (by kernel_rfl) (by kernel_rfl) (by kernel_rfl) (λ_ _ _ h=>h) (Or.inl ⟨by rfl,?_⟩) (by assumption) ?_;rotate_left
   .intro w hSw
    (try dsimp only at hSw)
    go_simp;try with_reducible rfl
   try simp only[Act.put]
   refine wpAnyH_take (i:=9) (v:=?_) rfl (by kernel_rfl) (by kernel_rfl) (by kernel_rfl) (λ_ _ _ h=>h) (Or.inl ⟨by rfl,?_⟩) (by assumption) ?_;rotate_left
   .intro w hSw
    (try dsimp only at hSw)
    go_simp;try with_reducible rfl
   try simp only[Act.put]
   refine wpAnyH_take (i:=10) (v:=?_) rfl (by kernel_rfl) (by kernel_rfl) (by kernel_rfl) (λ_ _ _ h=>h) (Or.inl ⟨by rfl,?_⟩) (by assumption) ?_;rotate_left
   .intro w hSw
    (try dsimp only at hSw)
    go_simp;try with_reducible rfl
   try simp only[Act.put]
   refine wpAnyH_take (i:=11) (v:=?_) rfl (by kernel_rfl) (by kernel_rfl) (by kernel_rfl) (λ_ _ _ h=>h) (Or.inl ⟨by rfl,?_⟩) (by assumption) ?_;rotate_left
   .intro w hSw
    (try dsimp only at hSw)
    go_simp;try with_reducible rfl
   try simp only[Act.put]
   refine wpAnyH_take (i:=12) (v:=?_) rfl (by kernel_rfl) (by kernel_rfl) (by kernel_rfl) (λ_ _ _ h=>h) (Or.inl ⟨by rfl,?_⟩) (by assumption) ?_;rotate_left
   .intro w hSw
    (try dsimp only at hSw)
    go_simp;try with_reducible rfl
   try simp only[Act.put]
   refine wpAnyH_take (i:=13) (v:=?_) rfl (by kernel_rfl) (by kernel_rfl) (by kernel_rfl) (λ_ _ _ h=>h) (Or.inl ⟨by rfl,?_⟩) (by assumption) ?_;rotate_left
   .intro w hSw
    (try dsimp only at hSw)
    go_simp;try with_reducible rfl
   try simp only[Act.put]
   refine wpAnyH_take (i:=14) (v:=?_) rfl (by kernel_rfl) (by kernel_rfl) (by kernel_rfl) (λ_ _ _ h=>h) (Or.inl ⟨by rfl,?_⟩) (by assumption) ?_;rotate_left
   .intro w hSw
    (try dsimp only at hSw)
    go_simp;try with_reducible rfl
   try simp only[Act.put]
   refine wpAnyH_take (i:=15) (v:=?_) rfl (by kernel_rfl) (by kernel_rfl) (by kernel_rfl) (λ_ _ _ h=>h) (Or.inl ⟨by rfl,?_⟩) (by assumption) ?_;rotate_left
   .intro w hSw
    (try dsimp only at hSw)
    go_simp;try with_reducible rfl
   try simp only[Act.put]
   refine wpAnyH_take (i:=16) (v:=?_) rfl (by kernel_rfl) (by kernel_rfl) (by kernel_rfl) (λ_ _ _ h=>h) (Or.inl ⟨by rfl,?_⟩) (by assumption) ?_;rotate_left
   .intro w hSw
    (try dsimp only at hSw)
    go_simp;try with_reducible rfl
   try simp only[Act.put]
   refine wpAnyH_take (i:=17) (v:=?_) rfl (by kernel_rfl) (by kernel_rfl) (by kernel_rfl) (λ_ _ _ h=>h) (Or.inl ⟨by rfl,?_⟩) (by assumption) ?_;rotate_left
   .intro w hSw
    (try dsimp only at hSw)
    go_simp;try with_reducible rfl
   try simp only[Act.put]
   have Yi:(W5.alloc (.cells X.toArray 148)).drew.cell? (Ad b 36)=some (.slice ao sn cap):=(du (ei W5 _ b lb')).trans wV;have Yj:W5.drew.cell? (Ad b 36)=some (.slice ao sn cap):=wV;refine wpAnyH_ready (rs:=[4,18]) (by kernel_rfl) (by simp) ?_;refine AllReadyH.cons rfl (λK hK=>?_) (AllReadyH.cons rfl (λK hK=>?_) AllReadyH.nil)
   .go_simp;refine hK.out _ _ q1 (λhHeld=>?_);clear hK K;try simp only[Act.put]
    refine wpAnyH_ready (rs:=[18]) (by kernel_rfl) (by simp) ?_;refine AllReadyH.cons rfl (λK hK=>?_) AllReadyH.nil;go_simp;refine hK.out _ _ q3 (λhHeld=>?_);clear hK K;try simp only[Act.put]
    refine wpAnyH_ready (rs:=[19]) (by kernel_rfl) (by simp) ?_;refine AllReadyH.cons rfl (λK hK=>?_) AllReadyH.nil
    (refine step_append_lies _ (by rfl) _ _ _ (by rfl) B 148 i0 _ 36 416 Tryz.underlying143 hi0 Jb hi1.1 hi1.2 hzs (by omega) (.slice ao sn cap) sn (bS s.sh) (by rfl) ((HO.o.alloc _).drew) (Ad W5.heap.size 0) 1 1 X (by rfl) (by rw[J4]) (World.news_of_block (cs:=X.toArray) (t:=148) (fr:=(0,0)) (di W5 _)) hX1 (by omega) (by unfold maxLen;omega) (by omega) (by simp;omega) (W5.heap.size+1) (by simp) ?_;intro gg bX w9 aH hgrow hat oK;have f9:w9.frozen? (Ad b 36)=false:=(hgrow.frozen_far (Ad b 36) (by simp;omega) (Ne.symm hne)).trans (dW lb' f36);have c9:w9.cell? (Ad b 36)=some (.slice ao sn cap):=(hgrow.cell_far (Ad b 36) (by simp;omega) (Ne.symm hne)).trans ((du (ei W5 _ b lb')).trans wV);have Je:w9.heap[b]?=W5.heap[b]?:=(hgrow.block b (by simp;omega) (Ne.symm hne)).trans (ei W5 _ b lb');have Jf:w9.heap[bx]?=W5.heap[bx]?:=(hgrow.block bx (by simp;omega) (Ne.symm hnx)).trans (ei W5 _ bx LY);have q4:=vY.o w9 Je Jf;have q5:=yH.o w9 (.slice (some (Ad gg 0)) (sn+1) bX) Je Jf)
    refine hK.out _ _ q4 (λhHeld=>?_);clear hK K;try simp only[Act.put]
    refine wpAnyH_take (i:=20) (v:=?_) rfl (by kernel_rfl) (by kernel_rfl) (by kernel_rfl) (λ_ _ _ h=>h) (Or.inl ⟨by rfl,?_⟩) (by assumption) ?_;rotate_left
    .intro w hSw
     (try dsimp only at hSw)
     go_simp;try with_reducible rfl
    try simp only[Act.put]
    refine wpAnyH_take (i:=21) (v:=?_) rfl (by kernel_rfl) (by kernel_rfl) (by kernel_rfl) (λ_ _ _ h=>h) (Or.inl ⟨by rfl,?_⟩) (by assumption) ?_;rotate_left
    .intro w hSw
     (try dsimp only at hSw)
     go_simp;try with_reducible rfl
    try simp only[Act.put]
    refine wpAnyH_ready (rs:=[22]) (by kernel_rfl) (by simp) ?_;refine AllReadyH.cons rfl (λK hK=>?_) AllReadyH.nil;go_simp;refine hK.out _ _ q5 (λhHeld=>?_);clear hK K;try simp only[Act.put]
    refine wpAnyH_done (by kernel_rfl) ?_ _;go_wp2;go_ret2;refine⟨rfl,?_⟩;rw[HZ.o,LX.o.1,LX.o.2];exact qH wT.o.rep wT.o.fr lu.o HL.o.2.1 rfl rfl HX.o.1 HX.o.2 aH hgrow hat
   go_simp;refine hK.out _ _ q3 (λhHeld=>?_);clear hK K;try simp only[Act.put]
   refine wpAnyH_ready (rs:=[4]) (by kernel_rfl) (by simp) ?_;refine AllReadyH.cons rfl (λK hK=>?_) AllReadyH.nil;go_simp;refine hK.out _ _ q3 (λhHeld=>?_);clear hK K;try simp only[Act.put]
   refine wpAnyH_ready (rs:=[19]) (by kernel_rfl) (by simp) ?_;refine AllReadyH.cons rfl (λK hK=>?_) AllReadyH.nil
   (refine step_append_lies _ (by rfl) _ _ _ (by rfl) B 148 i0 _ 36 416 Tryz.underlying143 hi0 Jb hi1.1 hi1.2 hzs (by omega) (.slice ao sn cap) sn (bS s.sh) (by rfl) ((HO.o.alloc _).drew) (Ad W5.heap.size 0) 1 1 X (by rfl) (by rw[J4]) (World.news_of_block (cs:=X.toArray) (t:=148) (fr:=(0,0)) (di W5 _)) hX1 (by omega) (by unfold maxLen;omega) (by omega) (by simp;omega) (W5.heap.size+1) (by simp) ?_;intro gg bX w9 aH hgrow hat oK;have f9:w9.frozen? (Ad b 36)=false:=(hgrow.frozen_far (Ad b 36) (by simp;omega) (Ne.symm hne)).trans (dW lb' f36);have c9:w9.cell? (Ad b 36)=some (.slice ao sn cap):=(hgrow.cell_far (Ad b 36) (by simp;omega) (Ne.symm hne)).trans ((du (ei W5 _ b lb')).trans wV);have Je:w9.heap[b]?=W5.heap[b]?:=(hgrow.block b (by simp;omega) (Ne.symm hne)).trans (ei W5 _ b lb');have Jf:w9.heap[bx]?=W5.heap[bx]?:=(hgrow.block bx (by simp;omega) (Ne.symm hnx)).trans (ei W5 _ bx LY);have q4:=vY.o w9 Je Jf;have q5:=yH.o w9 (.slice (some (Ad gg 0)) (sn+1) bX) Je Jf)
   refine hK.out _ _ q4 (λhHeld=>?_);clear hK K;try simp only[Act.put]
   refine wpAnyH_take (i:=20) (v:=?_) rfl (by kernel_rfl) (by kernel_rfl) (by kernel_rfl) (λ_ _ _ h=>h) (Or.inl ⟨by rfl,?_⟩) (by assumption) ?_;rotate_left
   .intro w hSw
    (try dsimp only at hSw)
    go_simp;try with_reducible rfl
   try simp only[Act.put]
   refine wpAnyH_take (i:=21) (v:=?_) rfl (by kernel_rfl) (by kernel_rfl) (by kernel_rfl) (λ_ _ _ h=>h) (Or.inl ⟨by rfl,?_⟩) (by assumption) ?_;rotate_left
   .intro w hSw
    (try dsimp only at hSw)
    go_simp;try with_reducible rfl
   try simp only[Act.put]
   refine wpAnyH_ready (rs:=[22]) (by kernel_rfl) (by simp) ?_;refine AllReadyH.cons rfl (λK hK=>?_) AllReadyH.nil;go_simp;refine hK.out _ _ q5 (λhHeld=>?_);clear hK K;try simp only[Act.put]
   refine wpAnyH_done (by kernel_rfl) ?_ _;go_wp2;go_ret2;refine⟨rfl,?_⟩;rw[HZ.o,LX.o.1,LX.o.2];exact qH wT.o.rep wT.o.fr lu.o HL.o.2.1 rfl rfl HX.o.1 HX.o.2 aH hgrow hat
end Go.Proofs.YtjceeemlilnplaaGreatDoor
