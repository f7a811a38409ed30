import Derived.Test.YtjceeemlilnplaaGreatDoorM32
set_option maxRecDepth 100000
set_option maxHeartbeats 12800000
set_option linter.all false
namespace Go.Proofs.YtjceeemlilnplaaGreatDoor
open Go.RowKit Go.Maps Go.MuLone
section
variable {B xb pb b RB:Nat}{ra:Option Addr}{rc:Nat}{w w' w0 W W':World}{F F' F0 L:List Nat}{s:Sc}{n n':Nat}{r r':ak}{O:gq}{p:Pl}{i:Nat}{nw:Int}{v:Value}{ls:List (Int×cC)}
theorem RO.set(h:RO ⟨B,xb,pb,b,RB,ra,rc⟩ w0 F0 s n v ls W)(hi:i<s.ps.length)(j:Nat)(hj:j<9)(x:Value)(q:Pr)(hq:q.rc=(s.pr i).rc.set j x):RO ⟨B,xb,pb,b,RB,ra,rc⟩ w0 F0 (s.aX i q) n v ls (W.setCell (Ad pb (i*9+j)) x):=by obtain⟨F,h,g,o⟩:=h;rw[Sc.dn hi]at hq;have f:Fr [pb] W (W.setCell (Ad pb (i*9+j)) x):=fR.setCell _ (Or.inl (by simp));refine⟨F,h.set hi hj hq,g.trans (Gw.put (by simp) _),aj o.1 (λy hy=>f.block y (o.1.lt y hy).2 (λhm=>?_)),o.2⟩;obtain⟨_,cur,h4⟩:=av o.1 hy;simp at hm;rw[hm,h.pr.2]at h4;simp at h4
theorem RO.XP(h:RO ⟨B,xb,pb,b,RB,ra,rc⟩ w0 F0 s n v ls W)(hi:i<s.ps.length):RO ⟨B,xb,pb,b,RB,ra,rc⟩ w0 F0 (s.aX i {s.pr i with tries:=(s.pr i).tr2}) n v ls (W.setCell (Ad pb (i*9+8)) (.i (s.pr i).tr2)):=h.set hi 8 (by omega) _ _ rfl
theorem RO.XQ(h:RO ⟨B,xb,pb,b,RB,ra,rc⟩ w0 F0 (s.aX i {s.pr i with tries:=(s.pr i).tr2}) n v ls W)(ho:fG s)(hi:i<s.ps.length):Rc 93 #[.p xb,.i i,.i (gN s.wait s.cap (s.pr i).tr2)] W (.agg #[.i i,.t (bU (aW 65 i ((s.pr i).num+1)))]) λw'=>RO ⟨B,xb,pb,b,RB,ra,rc⟩ w0 F0 (mP s i) n v ls w':=by have hn:=(ho.at hi).1;have h9:=h.asks (i:=i) (by rw[Sc.iZ];exact hi) (by rw[Sc.iZ];exact ho.ps.2) (gN s.wait s.cap (s.pr i).tr2) (by rw[Sc.iT hi];show 0≤(s.pr i).num∧(s.pr i).num<_;omega);rw[Sc.iT hi,Sc.set_set]at h9;exact h9
theorem jl(w:World)(c c':Array Value)(t t':TypeId):((w.alloc (.cells c t)).alloc (.cells c' t')).heap[w.heap.size+1]?=some (.cells c' t' (0,0)):=by have h:=di (w.alloc (.cells c t)) (.cells c' t');rwa[show(w.alloc (.cells c t)).heap.size=w.heap.size+1 by simp]at h
theorem Eu{q:Pr}{t:Int}(h:q.wt=true):jh q t nw=decide (q.since+q.wait≤t):=by unfold jh;rw[h,if_pos rfl]
theorem Ev{q:Pr}{t:Int}(h:q.wt=false):jh q t nw=(nw != 0&&nw != q.known&&nw != q.gave):=by unfold jh;rw[h,if_neg (by simp)];by_cases h1:nw=0<;>by_cases h2:nw=q.known<;>by_cases h3:nw=q.gave<;>simp[h1,h2,h3]
theorem RG.tick(hO:bE O)(h:RG ⟨B,xb,pb,b,RB,ra,rc⟩ w0 F0 s n w)(ho:fG s){K:Int}(hK:gI s K)(JW:K+1≤4000000000)(hn:n+100≤1000000000):
 Cl 42 #[.p xb] w λe w'=>∃v,e=.returned v∧RO ⟨B,xb,pb,b,RB,ra,rc⟩ w0 F0 (bC O s).2 (n+25) v (bC O s).1 w':=by
 obtain⟨i0,hi,hz0,hz1,hz2⟩:=info_parts CF;obtain⟨P,hP⟩:∃P:Sc->Nat->World->Prop,P=RG ⟨B,xb,pb,b,RB,ra,rc⟩ w0 F0:=⟨_,rfl⟩;obtain⟨c0,_,c10,_,c4,_⟩:=h.dI;obtain⟨m,hm⟩:=eX s.ps.length;by_cases ht:1073741824≤s.time
 .have HE:Hid (RO ⟨B,xb,pb,b,RB,ra,rc⟩ w0 F0 (bC O s).2 (n+25) (.slice none 0 0) (bC O s).1 w):=by unfold bC;rw[if_pos ht];exact(h.up (by omega)).o
  clear h ho hP;obtain⟨ti,hti⟩:=eX s.time;rw[hti]at c10 ht;go_enter Tryz.func42,Tryz.ntmps42;go_wp2;go_ret;exact⟨_,rfl,HE.o⟩
 obtain⟨k1,k2,k3,k4,k5,k6,k7⟩:=rY (O:=O) ho ht hK;obtain⟨s2,hs2⟩:=eX (fM O s);rw[hs2]at k1 k2 k3 k4 k5 k6 k7;obtain⟨nw,hnw⟩:=eX (aI s2.r);have hti:=ho.time;have hev:=ho.every;have ho1:fG {s with time:=s.time+1}:=⟨ho.every,ho.wait,ho.last,ho.rs,⟨by show 0≤s.time+1;omega,by show s.time+1≤_;omega⟩,ho.ps,λq hq=>by have:=ho.pr q hq;show _∧(_∧_≤s.time+1)∧_∧_∧_≤s.time+1;omega⟩;obtain⟨h1,z6⟩:=h.wE (s.time+1);obtain⟨w1,hw1⟩:=eX (w.setCell (Ad xb 10) (.i (s.time+1)));rw[hw1]at h1;have HH:Hid (bC O s=aP nw s2 m∧s2.ps.length=m∧m≤3∧fG s2∧gI s2 K∧(∀q∈s2.ps,q.tries+1≤s2.time)):=by refine⟨?_,by rw[k4];exact hm,by rw[<-hm];exact ho.ps.2,k1,k2,k3⟩;unfold bC;rw[if_neg ht,hs2,hnw,hm]
 have HF:Hid (∀s n W W',P s n W->Fr [] W W'->P s n W'):=by rw[hP];exactλ_ _ _ _ h f=>h.same f
 obtain⟨s1,hs1⟩:∃s1,({s with time:=s.time+1}:Sc)=s1:=⟨_,rfl⟩;obtain⟨st,hst⟩:∃st,({s1 with r:=fq O s1.time s1.last s1.rs s1.r}:Sc)=st:=⟨_,rfl⟩;obtain⟨ti,hte⟩:=eX s.time;obtain⟨ev,hee⟩:=eX s.every;obtain⟨Uc,hla⟩:=eX s.last;obtain⟨rv,XR⟩:∃rv:Value,Value.slice ra s.rs.length rc=rv:=⟨_,rfl⟩;have e1:s1.time=ti+1:=by rw[<-hs1,<-hte]
 have et:st.time=ti+1:=by rw[<-hst];exact e1
 rw[hs1]at h1 ho1;have H1:Hid (P s1 n w1):=by rw[hP];exact h1
 have zN:Hid (∀W,P s1 n W->W.cell? (Ad xb 0)=some (.p b)∧W.cell? (Ad xb 10)=some (.i (ti+1))∧W.cell? (Ad xb 4)=some (.i ev)∧W.cell? (Ad xb 8)=some (.i Uc)∧W.cell? (Ad xb 9)=some rv):=by rw[hP];intro W hW;obtain⟨a,_,b',_,c,_,d,d'⟩:=hW.dI;refine⟨a,by rw[<-e1];exact b',by rw[<-hee,show s.every=s1.every by rw[<-hs1]];exact c,by rw[<-hla,show s.last=s1.last by rw[<-hs1]];exact d,by rw[<-XR,show s.rs=s1.rs by rw[<-hs1]];exact d'⟩
 have HT:Hid (∀W,P s1 n W->Rc 91 #[.p b,.i (ti+1),.i Uc,rv] W (.tuple #[]) λw'=>P st (n+24) w'∧w'.cell? (Ad xb 0)=some (.p b)∧w'.cell? (Ad xb 10)=some (.i (ti+1))∧w'.cell? (Ad xb 8)=some (.i Uc)∧w'.cell? (Ad xb 9)=some rv):=by
  rw[hP];intro W hW;have h9:=hW.thin hO ho1 (by omega);rw[hst,e1]at h9;have e2:s1.last=Uc:=by rw[<-hs1];exact hla
  have e3:Value.slice ra s1.rs.length rc=rv:=by rw[<-hs1];exact XR
  rw[e2,e3]at h9;refine h9.mono ?_;rintro e w' ⟨he,k'⟩;obtain⟨a,_,b',_,c,_,d,d'⟩:=k'.dI;refine⟨he,k',a,by rw[<-et];exact b',by rw[<-e2,show s1.last=st.last by rw[<-hst]];exact d,by rw[<-e3,show s1.rs=st.rs by rw[<-hst]];exact d'⟩
 obtain⟨r0,hr0⟩:=eX ((ti+1)%ev);have XC:Int.tmod (ti+1) ev=r0:=by rw[<-hr0];exact ky (by omega)
 have HS:Hid (∀W,P st (n+24) W->r0=0->Cl 66 #[.p b,.i (ti+1)] W λe w'=>∃v:Value,e=.returned v∧P s2 (n+25) w'∧w'.cell? (Ad xb 0)=some (.p b)∧w'.cell? (Ad xb 10)=some (.i (ti+1))):=by
  rw[hP];intro W hW e0;refine(hW.call (hO.snap st.r (ti+1) (hW.ok.le (by omega)))).mono ?_;rintro e w' ⟨he,k'⟩;have e9:({st with r:=(O.snap st.r (ti+1)).2}:Sc)=s2:=by
   have ec:(s.time+1)%s.every=0:=by rw[hte,hee,hr0];exact e0
   rw[<-hs2];unfold fM;rw[if_pos ec,<-hst,<-hs1,<-hte]
  rw[e9]at k';obtain⟨a,_,b',_⟩:=k'.dI;exact⟨_,he,k',a,by rw[<-hte,<-k5];exact b'⟩
 have XD:Hid (∀W,P s1 n W->r0≠0->P s2 (n+25) W):=by
  rw[hP];intro W hW e0;have e9:s1=s2:=by
   have ec:¬(s.time+1)%s.every=0:=by rw[hte,hee,hr0];exact e0
   rw[<-hs2];unfold fM;rw[if_neg ec,<-hs1]
  rw[<-e9];exact hW.up (by omega)
 have XT:Hid (∀W,P s2 (n+25) W->W.cell? (Ad xb 0)=some (.p b)):=by
  rw[hP]
  exactλW hW=>hW.dI.1
 have jN:Hid (∀W,P s2 (n+25) W->Rc 92 #[.p b] W (.i nw) λw'=>P s2 (n+25) w'∧w'.cell? (Ad xb 11)=some (.slice (some (Ad pb 0)) m m)):=by rw[hP,<-hnw];intro W hW;refine hW.newest.mono ?_;rintro e w' ⟨he,k'⟩;exact⟨he,k',by rw[<-HH.o.2.1];exact k'.dI.2.2.2.1⟩
 obtain⟨Q,hQ⟩:∃Q:Nat->Value->World->Prop,Q=λk v W=>RO ⟨B,xb,pb,b,RB,ra,rc⟩ w0 F0 (aP nw s2 k).2 (n+25) v (aP nw s2 k).1 W:=⟨_,rfl⟩;have hl2:∀k,(aP nw s2 k).2.ps.length=m:=λk=>by rw[(eG k).2];exact HH.o.2.1
 have ht2:∀k,(aP nw s2 k).2.time=ti+1:=λk=>by rw[(eG k).1];show s2.time=_;rw[k5,hte]
 obtain⟨sw,hsw⟩:=eX s2.wait;obtain⟨cp,hcp⟩:=eX s2.cap;have hw2:∀k,(aP nw s2 k).2.wait=sw:=λk=>by rw[(eG k).1];exact hsw
 have hp2:∀k,(aP nw s2 k).2.cap=cp:=λk=>by rw[(eG k).1];exact hcp
 have hwc:1≤sw∧sw≤cp∧cp≤1000:=by rw[<-hsw,<-hcp];exact k1.wait
 have QE:Hid (∀W,P s2 (n+25) W->Q 0 (.slice none 0 0) W):=by
  rw[hP,hQ]
  exactλW hW=>hW.o
 have VL:Hid (∀k v W W',Q k v W->Fr [] W W'->Q k v W'):=by
  rw[hQ]
  exactλk v W W' hW f=>RO.same hW f
 have VN:Hid (∀k v W,Q k v W->W.cell? (Ad xb 11)=some (.slice (some (Ad pb 0)) m m)∧W.cell? (Ad xb 10)=some (.i (ti+1))∧W.cell? (Ad xb 5)=some (.i sw)∧W.cell? (Ad xb 6)=some (.i cp)):=by rw[hQ];intro k v W hW;obtain⟨_,a,b',d,_,d',_⟩:=(RO.rg hW).dI;exact⟨by rw[<-hl2 k];exact d,by rw[<-ht2 k];exact b',by rw[<-hw2 k];exact a,by rw[<-hp2 k];exact d'⟩
 obtain⟨pe,hpe⟩:∃pe:Nat->Pr,pe=λk=>(aP nw s2 k).2.pr k:=⟨_,rfl⟩;have XE:Hid (∀k v W,Q k v W->k<m->(W.cell? (Ad pb (k*9))=some (.i (pe k).known)∧W.cell? (Ad pb (k*9+1))=some (.i (pe k).gave)∧W.cell? (Ad pb (k*9+3))=some (.bool (pe k).wt)∧W.cell? (Ad pb (k*9+6))=some (.i (pe k).since)∧W.cell? (Ad pb (k*9+7))=some (.i (pe k).wait)∧W.cell? (Ad pb (k*9+8))=some (.i (pe k).tries))∧W.frozen? (Ad pb (k*9+8))=false):=by
  rw[hQ,hpe];intro k v W hW hk;have hk':k<(aP nw s2 k).2.ps.length:=by rw[hl2];exact hk
  have hg:=λj hj=>((RO.rg hW).aR hk' j hj).1;exact⟨⟨hg 0 (by omega),hg 1 (by omega),hg 3 (by omega),hg 6 (by omega),hg 7 (by omega),hg 8 (by omega)⟩,((RO.rg hW).aR hk' 8 (by omega)).2⟩
 have hok2:∀k,k<m->fG (aP nw s2 k).2:=λk hk=>by obtain⟨_,e2,_,e4,e5,e6⟩:=HH.o;exact(nX e4 e5 JW e6 k (by omega)).1
 have HQR:Hid (∀k,k<m->0≤(pe k).since∧(pe k).since≤ti+1∧0≤(pe k).wait∧(pe k).wait≤1000∧0≤(pe k).tries∧(pe k).tries≤ti+1):=λk hk=>by have h9:=(hok2 k hk).at (i:=k) (by rw[hl2];exact hk);rw[ht2,<-(congrFun hpe k)]at h9;omega
 have ht3:s2.time=ti+1:=by rw[k5,hte]
 have XF:Hid (∀k v W,Q k v W->jh (pe k) (ti+1) nw=false->Q (k+1) v W):=by
  rw[hQ,hpe];intro k v W hW hd;have e9:aP nw s2 (k+1)=aP nw s2 k:=by show(if _ then _ else _)=_;rw[ht3,hd,if_neg (by simp)]
  show RO _ _ _ (aP nw s2 (k+1)).2 _ _ (aP nw s2 (k+1)).1 _;rw[e9];exact hW
 obtain⟨QT,Ud⟩:∃QT:Nat->Value->World->Prop,QT=λk v W=>RO ⟨B,xb,pb,b,RB,ra,rc⟩ w0 F0 ((aP nw s2 k).2.aX k {(aP nw s2 k).2.pr k with tries:=((aP nw s2 k).2.pr k).tr2}) (n+25) v (aP nw s2 k).1 W:=⟨_,rfl⟩;obtain⟨QA,Ir⟩:∃QA:Nat->Value->World->Prop,QA=λk v W=>RO ⟨B,xb,pb,b,RB,ra,rc⟩ w0 F0 (mP (aP nw s2 k).2 k) (n+25) v (aP nw s2 k).1 W:=⟨_,rfl⟩;have HQT:Hid (∀k v W,Q k v W->k<m->QT k v (W.setCell (Ad pb (k*9+8)) (.i (pe k).tr2))):=by rw[hQ,Ud,hpe];intro k v W hW hk;exact RO.XP hW (by rw[hl2];exact hk)
 have XU:Hid (∀k v W,QT k v W->k<m->W.cell? (Ad xb 5)=some (.i sw)∧W.cell? (Ad xb 6)=some (.i cp)∧W.cell? (Ad pb (k*9+8))=some (.i (pe k).tr2)):=by
  rw[Ud,hpe];intro k v W hW hk;have hk':k<(aP nw s2 k).2.ps.length:=by rw[hl2];exact hk
  obtain⟨_,a,b',d,_,d',_⟩:=(RO.rg hW).dI;refine⟨by rw[<-hw2 k];exact a,by rw[<-hp2 k];exact d',?_⟩;rw[((RO.rg hW).aR (i:=k) (by rw[Sc.iZ];exact hk') 8 (by omega)).1,Sc.iT hk'];rfl
 have Pk:Hid (∀k v W W',QT k v W->Fr [] W W'->QT k v W'):=by
  rw[Ud]
  exactλk v W W' hW f=>RO.same hW f
 have XG:Hid (∀k v W,QT k v W->k<m->Rc 93 #[.p xb,.i k,.i (gN sw cp (pe k).tr2)] W (.agg #[.i k,.t (bU (aW 65 k ((pe k).num+1)))]) λw'=>QA k v w'):=by rw[Ud,Ir,hpe];intro k v W hW hk;have h9:=RO.XQ hW (hok2 k hk) (by rw[hl2];exact hk);rw[hw2,hp2]at h9;exact h9
 have XH:Hid (∀k v W,Q k v W->W.ownsRow w0.heap.size 186 2 v (aP nw s2 k).1.length (iO (aP nw s2 k).1)∧w0.heap.size≤W.heap.size):=by
  rw[hQ]
  exactλk v W hW=>RO.own hW
 have Pg:Hid (∀k v W,QA k v W->W.ownsRow w0.heap.size 186 2 v (aP nw s2 k).1.length (iO (aP nw s2 k).1)∧w0.heap.size≤W.heap.size):=by
  rw[Ir]
  exactλk v W hW=>RO.own hW
 have XI:Hid (∀k v W W' g c,QA k v W->jh (pe k) (ti+1) nw=true->(W'.ownsRow w0.heap.size 186 2 (.slice (some (Ad g 0)) ((aP nw s2 k).1.length+1) c) ((aP nw s2 k).1.length+1) (iO (aP nw s2 k).1++[.i k,.t (bU (aW 65 k ((pe k).num+1)))]))->W.grownBy W' v.ownBlock->(v.ownBlock=some g∨g=W.heap.size)->Q (k+1) (.slice (some (Ad g 0)) ((aP nw s2 k).1.length+1) c) W'):=by
  rw[Ir,hQ,hpe];intro k v W W' g c hW hd o1 g1 l1;have e9:aP nw s2 (k+1)=((aP nw s2 k).1++[((k:Int),bU (aW 65 k (((aP nw s2 k).2.pr k).num+1)))],mP (aP nw s2 k).2 k):=by show(if _ then _ else _)=_;rw[ht3,hd,if_pos rfl]
  show RO _ _ _ (aP nw s2 (k+1)).2 _ _ (aP nw s2 (k+1)).1 _;rw[e9];exact RO.push hW o1 g1 l1
 have yX:Hid (∀k v W W',QA k v W->Fr [] W W'->QA k v W'):=by
  rw[Ir]
  exactλk v W W' hW f=>RO.same hW f
 have XJ:Hid (∀k,k≤m->(aP nw s2 k).1.length≤k):=λk hk=>by obtain⟨_,e2,_,e4,e5,e6⟩:=HH.o;exact(nX e4 e5 JW e6 k (by omega)).2.2
 have Ph:Hid (∀v W,Q m v W->RO ⟨B,xb,pb,b,RB,ra,rc⟩ w0 F0 (bC O s).2 (n+25) v (bC O s).1 W):=by
  rw[hQ,HH.o.1]
  exactλv W hW=>hW
 obtain⟨PR,kY⟩:∃PR:Value->World->Prop,PR=λv W=>RO ⟨B,xb,pb,b,RB,ra,rc⟩ w0 F0 (bC O s).2 (n+25) v (bC O s).1 W:=⟨_,rfl⟩;have Ph:Hid (∀v W,Q m v W->PR v W):=by rw[kY];exact Ph
 show Cl 42 _ w λe w'=>∃v,e=.returned v∧(λv W=>RO ⟨B,xb,pb,b,RB,ra,rc⟩ w0 F0 (bC O s).2 (n+25) v (bC O s).1 W) v w';rw[<-kY];have Vy:m≤3:=HH.o.2.2.1;have XK:0≤ti∧ti<1073741824:=by rw[<-hte];omega
 have XL:1≤ev∧ev≤1000:=by rw[<-hee];exact hev
 have XM:ev≠0:=by omega
 rw[hte]at c10 hw1 ht;rw[hee]at c4;clear h h1 ho ho1 hP hm k1 k2 k3 k4 k5 k6 k7 hs2 hnw hti hev HH hs1 hst hte hee e1 et hr0 hQ hl2 ht2 ht3 Ir kY hO hK hla XR hsw hcp hw2 hp2 hpe hok2 Ud;obtain⟨b0,b10,b4,b8,b9⟩:=zN.o _ H1.o;go_enter Tryz.func42,Tryz.ntmps42;go_wp2;go_quiet (fail)
 go_upto_if 33 with fail;try rw[hw1]
 clear hw1 c0 c10 c4 z6;go_cut [] from 11 (λwx=>Hid (P s2 (n+25) wx))
 case first=>
  by_cases e0:r0=0
  .have q0:(r0==0)=true:=by simpa using e0
   go_wp2;go_region_held3 (λw'=>w'.cell? ⟨xb,0,none⟩=some (.pointer (some ⟨b,0,none⟩))∧w'.cell? ⟨xb,10,none⟩=some (.int .i64 (ti+1))∧w'.cell? ⟨xb,8,none⟩=some (.int .i64 Uc)∧w'.cell? ⟨xb,9,none⟩=some rv)
    (first
      |exact⟨e20,e26,e28,e29⟩
      |go_keep)
    (first
      |(go_at_call 91;refine(HT.o _ (HF.o _ _ _ _ H1.o (by first|exact fR|exact fR.drewN _|exact(fR.drewN _).drew|exact fR.drew|exact(fR.drewN _).drewN _))).mono ?_;rintro e w2 ⟨rfl,t2,e20,e26,e28,e29⟩;have H2:=Hd t2;clear t2))
   go_wp2;go_region_held3 (λw'=>w'.cell? ⟨xb,10,none⟩=some (.int .i64 (ti+1))∧w'.cell? ⟨xb,0,none⟩=some (.pointer (some ⟨b,0,none⟩)))
    (first
      |exact⟨e36,e30⟩
      |go_keep)
    (first
      |(go_at_call 66;refine(HS.o _ (HF.o _ _ _ _ H2.o (by first|exact fR|exact fR.drewN _|exact(fR.drewN _).drew|exact fR.drew|exact(fR.drewN _).drewN _)) e0).mono ?_;rintro e w3 ⟨gg,rfl,t3,e30,e36⟩;have H3:=Hd t3;clear t3))
   go_wp2;go_meet;exact H3
  have q0:(r0==0)=false:=by simpa using e0
  have H3:=Hd (XD.o _ H1.o e0);go_wp2;go_meet;exact HF.o _ _ _ _ H3.o (by first|exact fR|exact fR.drewN _|exact(fR.drewN _).drew|exact fR.drew|exact(fR.drewN _).drewN _)
 case rest=>
 have H3:=Hd hcut;obtain⟨w3,hw3⟩:=eY wc;subst hw3;clear hcut H1 b0 b10 b4 b8 b9;have b0:=XT.o _ H3.o;go_wp2_with (first
  |(go_at_call 92;refine(jN.o _ (HF.o _ _ _ _ H3.o (by first|exact fR|exact fR.drewN _|exact(fR.drewN _).drew|exact fR.drew|exact(fR.drewN _).drewN _))).mono ?_;rintro e w4 ⟨rfl,t4,e47⟩;have H4:=Hd t4;clear t4))
 clear b0;go_loopw [3,5] (λXO i wr=>∃(lv:Value)(k:Nat),XO=lv∧k≤m∧i=.i k∧Hid (Q k lv wr)) (λ_ i _=>m-(intOf i).toNat)
 case atStart=>exact⟨_,0,rfl,dC _,rfl,QE.o _ H4.o⟩
 obtain⟨lv,k,Iu,hk,rfl,HL⟩:=hrel;have hlv1:=Iu.symm;clear Iu;subst hlv1;obtain⟨W3,hW3⟩:=eY wr;subst hW3;clear H4 e47;obtain⟨c11,c10,c5,c6⟩:=VN.o _ _ _ HL.o;by_cases hlt2:k<m
 .have hltz:(k:Int)<(m:Int):=by omega
  have k0:(0:Int)≤(k:Int):=by omega
  obtain⟨⟨d0,d1,d3,d6,d7,d8⟩,z8⟩:=XE.o _ _ _ HL.o hlt2;obtain⟨la,lc,hlv⟩:=ah (XH.o _ _ _ HL.o).1;have hlk:=XJ.o k (by omega);obtain⟨r1,r2,r3,r4,r5,r6⟩:=HQR.o k hlt2;obtain⟨q,hq⟩:=eX (pe k);obtain⟨ln,hln⟩:=eX (aP nw s2 k).1.length;obtain⟨Tx,hTx⟩:=eX (bU (aW 65 k ((pe k).num+1)));subst hlv;have OX:Hid (∀W W' g c,QA k (.slice la ln lc) W->jh q (ti+1) nw=true->(W'.ownsRow w0.heap.size 186 2 (.slice (some (Ad g 0)) (ln+1) c) (ln+1) (iO (aP nw s2 k).1++[.i k,.t Tx]))->W.grownBy W' (Value.slice la ln lc).ownBlock->((Value.slice la ln lc).ownBlock=some g∨g=W.heap.size)->Q (k+1) (.slice (some (Ad g 0)) (ln+1) c) W'):=λW W' g c q1 qd q2=>by have h9:=XI.o k (.slice la ln lc) W W' g c q1 (by rw[hq];exact qd);rw[hln,hTx]at h9;exact h9 q2
  have HA:Hid (∀W,QT k (.slice la ln lc) W->Rc 93 #[.p xb,.i k,.i (gN sw cp q.tr2)] W (.agg #[.i k,.t Tx]) λw'=>QA k (.slice la ln lc) w'):=λW q1=>by have h9:=XG.o k _ W q1 hlt2;rw[hTx,hq]at h9;exact h9
  have Lv:Hid (∀W,QA k (.slice la ln lc) W->W.ownsRow w0.heap.size 186 2 (.slice la ln lc) ln (iO (aP nw s2 k).1)∧w0.heap.size≤W.heap.size):=λW q1=>by have h9:=Pg.o k _ W q1;rw[hln]at h9;exact h9
  rw[hln]at hlk HL⊢;have HT1:Hid (∀W,Fr [] W3 W->QT k (.slice la ln lc) (W.setCell (Ad pb (k*9+8)) (.i q.tr2))):=λW f=>by rw[<-hq];exact HQT.o k _ W (VL.o _ _ _ _ HL.o f) hlt2
  rw[hq]at d0 d1 d3 d6 d7 d8 r1 r2 r3 r4 r5 r6;have CJ:=Hd λe=>XF.o _ _ _ HL.o (by rw[hq];exact e);have KW:Hid (∀W,QT k (.slice la ln lc) W->W.cell? (Ad xb 5)=some (.i sw)∧W.cell? (Ad xb 6)=some (.i cp)∧W.cell? (Ad pb (k*9+8))=some (.i q.tr2)):=λW q1=>by rw[<-hq];exact XU.o k _ W q1 hlt2
  clear HL hln hTx hq;obtain⟨kn,hkn⟩:=eX q.known;obtain⟨gv,hgv⟩:=eX q.gave;obtain⟨sn,hsn⟩:=eX q.since;obtain⟨wa,nK⟩:=eX q.wait;obtain⟨tr,htr⟩:=eX q.tries;rw[hkn]at d0;rw[hgv]at d1;rw[hsn]at d6 r1 r2;rw[nK]at d7 r3 r4;rw[htr]at d8 r5 r6;cases hwt:q.wt with
  |false=>
   rw[hwt]at d3;have hd:=Ev (nw:=nw) (q:=q) (t:=ti+1) hwt;rw[hkn,hgv]at hd;have ht2:q.tr2=0:=by unfold Pr.tr2;rw[hwt];rfl
   rw[ht2]at HT1 KW HA;clear ht2 hwt;by_cases e1:nw=0
   .have q1:(nw != 0)=false:=by simpa using e1
    have FE:Hid (jh q (ti+1) nw=false):=by rw[hd,q1];rfl
    clear e1 hd;go_wp2;go_roundw
    case rel=>exact⟨_,k+1,rfl,by omega,by go_num,CJ.o FE.o⟩
    simp[intOf];omega
   have q1:(nw != 0)=true:=by simpa using e1
   by_cases e2:nw=kn
   .have q2:(nw != kn)=false:=by simpa using e2
    have FE:Hid (jh q (ti+1) nw=false):=by rw[hd,q1,q2];rfl
    clear e1 e2 hd;go_wp2;go_roundw
    case rel=>exact⟨_,k+1,rfl,by omega,by go_num,CJ.o FE.o⟩
    simp[intOf];omega
   have q2:(nw != kn)=true:=by simpa using e2
   by_cases e3:nw=gv
   .have q3:(nw != gv)=false:=by simpa using e3
    have FE:Hid (jh q (ti+1) nw=false):=by rw[hd,q1,q2,q3];rfl
    clear e1 e2 e3 hd;go_wp2;go_roundw
    case rel=>exact⟨_,k+1,rfl,by omega,by go_num,CJ.o FE.o⟩
    simp[intOf];omega
   have q3:(nw != gv)=true:=by simpa using e3
   have FE:Hid (jh q (ti+1) nw=true):=by rw[hd,q1,q2,q3];rfl
   clear e1 e2 e3 hd;obtain⟨W4,iI⟩:=eX (W3.setCell (Ad pb (k*9+8)) (.i 0));have H4:Hid (QT k (.slice la ln lc) W4):=by rw[<-iI];exact HT1.o _ fR
   obtain⟨b5,b6,b8⟩:=KW.o _ H4.o;have e0:gN sw cp 0=sw:=rfl;rw[e0]at HA;go_upto_region 16 with fail;try rw[iI]
   clear c11 c10 c5 c6 d0 d1 d3 d6 d7 d8 z8 iI HT1;go_wp2_with (first
    |(go_at_call 93;refine(HA.o _ (Pk.o _ _ _ _ H4.o (by first|exact fR|exact fR.drew|exact fR.drewN _))).mono ?_;rintro e w6 ⟨rfl,t6⟩;have H6:=Hd t6;clear t6;have Pj:w0.heap.size≤w6.heap.size:=(Lv.o _ H6.o).2;have HX:Hid (Fr [] w6 (w6.alloc (.cells #[.i k,.t Tx] 186))):=(Fr.refl [] w6).alloc _)
    |(at_builtin;refine wpList_append_lies _ rfl _ _ 112 rfl w0.heap.size 186 i0 _ 2 24 Tryz.underlying112 hi hz0 hz1 hz2 rfl (by omega) (.slice la ln lc) ln (iO (aP nw s2 k).1) rfl ((Lv.o _ (yX.o _ _ _ _ H6.o HX.o)).1.alloc _) _ 1 1 [.i (k:Int),.t Tx] rfl (by simp) (World.news_of_block (cs:=#[.i (k:Int),.t Tx]) (t:=186) (fr:=(0,0)) (jl w6 _ _ _ _)) (by simp[Value.oneCell']) (by omega) (by unfold maxLen;omega) (by omega) (by simp;omega) _ rfl ?_;intro g9 c9 w9 aH aJ vP D7;have H9:Hid (Q (k+1) (.slice (some (Ad g9 0)) (ln+1) c9) w9):=OX.o _ _ _ _ (yX.o _ _ _ _ H6.o (HX.o.alloc _)) FE.o aH aJ vP;clear aH aJ vP D7))
   go_roundw
   case rel=>exact⟨_,k+1,rfl,by omega,by go_num,H9⟩
   simp[intOf];omega
  |true=>
   rw[hwt]at d3;have hd:=Eu (nw:=nw) (q:=q) (t:=ti+1) hwt;rw[hsn,nK]at hd;obtain⟨N,hN⟩:=eX q.tr2;have hN1:tr+1=(N:Int):=by rw[<-hN];unfold Pr.tr2;rw[hwt,if_pos rfl,htr];omega
   rw[hN]at HT1 KW HA;clear hN hwt;by_cases ZT:sn+wa≤ti+1
   .have FE:Hid (jh q (ti+1) nw=true):=by rw[hd];exact decide_eq_true ZT
    have hN9:(N:Int)≤1073741826:=by omega
    go_wp2;go_quiet (fail)
    obtain⟨W4,iI⟩:=eX ((W3.drewN nq).setCell (Ad pb (k*9+8)) (.i (N:Int)));have H4:Hid (QT k (.slice la ln lc) W4):=by rw[<-iI];exact HT1.o _ (fR.drewN _)
    obtain⟨b5,b6,b8⟩:=KW.o _ H4.o;go_upto_region 20 with fail;try rw[iI]
    clear c11 c10 c5 c6 d0 d1 d3 d6 d7 d8 z8 iI HT1 hd hN1;go_wp2;go_loop [8,9] (λu j=>∃(j':Nat)(u':Int),u=.i u'∧j=.i j'∧j'≤N∧1≤u'∧u'≤2000∧Hid (gN sw cp j'=min u' cp)) (λ_ j=>N-(intOf j).toNat)
    case atStart=>exact⟨0,sw,rfl,rfl,dC _,by omega,by omega,(by show sw=_;omega:gN sw cp 0=min sw cp)⟩
    obtain⟨j,u,rfl,rfl,hj,hu1,hu2,HU⟩:=hrel;have aaw:cp≤1000:=hwc.2.2;by_cases hjN:j<N
    .have hjz:(j:Int)<(N:Int):=by omega
     by_cases huc:u<cp
     .have MU:Hid (gN sw cp (j+1)=min (2*u) cp):=by show min (2*gN sw cp j) cp=_;rw[HU.o];omega
      go_wp2;go_round
      case rel=>exact⟨j+1,2*u,by go_num,by go_num,by omega,by omega,by omega,MU⟩
      simp[intOf];omega
     have HE:=Hd (yA ⟨hwc.1,hwc.2.1⟩ (k:=j) (by rw[HU.o];omega) N (by omega));have hmin:min u cp=cp:=by omega
     rw[HE.o]at HA;go_wp2_with (first
      |(go_at_call 93;refine(HA.o _ (Pk.o _ _ _ _ H4.o (by first|exact fR|exact fR.drew|exact fR.drewN _))).mono ?_;rintro e w6 ⟨rfl,t6⟩;have H6:=Hd t6;clear t6;have Pj:w0.heap.size≤w6.heap.size:=(Lv.o _ H6.o).2;have HX:Hid (Fr [] w6 (w6.alloc (.cells #[.i k,.t Tx] 186))):=(Fr.refl [] w6).alloc _)
      |(at_builtin;refine wpList_append_lies _ rfl _ _ 112 rfl w0.heap.size 186 i0 _ 2 24 Tryz.underlying112 hi hz0 hz1 hz2 rfl (by omega) (.slice la ln lc) ln (iO (aP nw s2 k).1) rfl ((Lv.o _ (yX.o _ _ _ _ H6.o HX.o)).1.alloc _) _ 1 1 [.i (k:Int),.t Tx] rfl (by simp) (World.news_of_block (cs:=#[.i (k:Int),.t Tx]) (t:=186) (fr:=(0,0)) (jl w6 _ _ _ _)) (by simp[Value.oneCell']) (by omega) (by unfold maxLen;omega) (by omega) (by simp;omega) _ rfl ?_;intro g9 c9 w9 aH aJ vP D7;have H9:Hid (Q (k+1) (.slice (some (Ad g9 0)) (ln+1) c9) w9):=OX.o _ _ _ _ (yX.o _ _ _ _ H6.o (HX.o.alloc _)) FE.o aH aJ vP;clear aH aJ vP D7))
     go_roundw
     case rel=>exact⟨_,k+1,rfl,by omega,by go_num,H9⟩
     simp[intOf];omega
    have hjz:¬(j:Int)<(N:Int):=by omega
    have Xl:j=N:=by omega
    subst Xl;rw[HU.o]at HA;go_wp2_with (first
     |(go_at_call 93;refine(HA.o _ (Pk.o _ _ _ _ H4.o (by first|exact fR|exact fR.drew|exact fR.drewN _))).mono ?_;rintro e w6 ⟨rfl,t6⟩;have H6:=Hd t6;clear t6;have Pj:w0.heap.size≤w6.heap.size:=(Lv.o _ H6.o).2;have HX:Hid (Fr [] w6 (w6.alloc (.cells #[.i k,.t Tx] 186))):=(Fr.refl [] w6).alloc _)
     |(at_builtin;refine wpList_append_lies _ rfl _ _ 112 rfl w0.heap.size 186 i0 _ 2 24 Tryz.underlying112 hi hz0 hz1 hz2 rfl (by omega) (.slice la ln lc) ln (iO (aP nw s2 k).1) rfl ((Lv.o _ (yX.o _ _ _ _ H6.o HX.o)).1.alloc _) _ 1 1 [.i (k:Int),.t Tx] rfl (by simp) (World.news_of_block (cs:=#[.i (k:Int),.t Tx]) (t:=186) (fr:=(0,0)) (jl w6 _ _ _ _)) (by simp[Value.oneCell']) (by omega) (by unfold maxLen;omega) (by omega) (by simp;omega) _ rfl ?_;intro g9 c9 w9 aH aJ vP D7;have H9:Hid (Q (k+1) (.slice (some (Ad g9 0)) (ln+1) c9) w9):=OX.o _ _ _ _ (yX.o _ _ _ _ H6.o (HX.o.alloc _)) FE.o aH aJ vP;clear aH aJ vP D7))
    go_roundw
    case rel=>exact⟨_,k+1,rfl,by omega,by go_num,H9⟩
    simp[intOf];omega
   have FE:Hid (jh q (ti+1) nw=false):=by rw[hd];exact kB ZT
   clear hd;go_wp2;go_quiet (fail)
   go_wp2;go_roundw
   case rel=>exact⟨_,k+1,rfl,by omega,by go_num,VL.o _ _ _ _ (CJ.o FE.o) (by first|exact fR|exact fR.drewN _|exact fR.drew)⟩
   simp[intOf];omega
 have hltz:¬(k:Int)<(m:Int):=by omega
 have hkm:k=m:=by omega
 subst hkm;go_wp2;go_ret;exact⟨_,rfl,Ph.o _ _ HL.o⟩
end
end Go.Proofs.YtjceeemlilnplaaGreatDoor
