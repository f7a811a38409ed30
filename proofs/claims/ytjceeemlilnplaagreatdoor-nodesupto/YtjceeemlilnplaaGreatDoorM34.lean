import Derived.Test.YtjceeemlilnplaaGreatDoorM31
set_option maxRecDepth 100000
set_option maxHeartbeats 12800000
set_option linter.all false
namespace Go.Proofs.YtjceeemlilnplaaGreatDoor
open Go.RowKit Go.Maps Go.MuLone
section
variable {B xb pb b RB:Nat}{ra:Option Addr}{rc:Nat}{w w' w0 W W':World}{F F' F0 L:List Nat}{s:Sc}{n n':Nat}{r r':ak}{O:gq}{p:Pl}{i:Nat}
theorem RG.has(h:RG ⟨B,xb,pb,b,RB,ra,rc⟩ w0 F0 s n W)(z:Int):Rc 119 #[.p b,.i z] W (.bool (oV s.r z)) λw'=>RG ⟨B,xb,pb,b,RB,ra,rc⟩ w0 F0 s n w':=by obtain⟨F,h,g⟩:=h;obtain⟨⟨r0,⟨sv,mv,e0⟩,rp,_⟩,ho⟩:=id h.sk;have hl:=ho.len;refine(iB B b r0 z W rp (by rw[e0];show s.r.sh.length≤_;omega) (by rw[e0];show s.r.ms.length≤_;omega)).mono ?_;rintro e w' ⟨he,rfl⟩;exact⟨by rw[he,e0];rfl,F,h,g⟩
theorem RG.TF(h:RG ⟨B,xb,pb,b,RB,ra,rc⟩ w0 F0 s n W)(hi:i<s.ps.length)(hw:(s.pr i).wt=true)(aim:Int):RG ⟨B,xb,pb,b,RB,ra,rc⟩ w0 F0 (s.aX i (({s.pr i with sent:=aim}:Pr).dQ true s.time s.wait)) n (((((W.setCell (Ad pb (i*9+2)) (.i aim)).setCell (Ad pb (i*9+5)) (.i ((s.pr i).num+1))).setCell (Ad pb (i*9+4)) (.bool true)).setCell (Ad pb (i*9+6)) (.i s.time)).setCell (Ad pb (i*9+7)) (.i s.wait)):=by
 have hl:∀q,i<(s.aX i q).ps.length:=λq=>by rw[Sc.iZ];exact hi
 have s1:=h.set hi 2 (by omega) (.i aim) {s.pr i with sent:=aim} rfl;have s2:=s1.set (hl _) 5 (by omega) (.i ((s.pr i).num+1)) {s.pr i with sent:=aim,num:=(s.pr i).num+1} (by rw[Sc.iT hi];rfl);rw[Sc.set_set]at s2;have s3:=s2.set (hl _) 4 (by omega) (.bool true) {s.pr i with sent:=aim,num:=(s.pr i).num+1,dt:=true} (by rw[Sc.iT hi];rfl);rw[Sc.set_set]at s3;have s4:=s3.set (hl _) 6 (by omega) (.i s.time) {s.pr i with sent:=aim,num:=(s.pr i).num+1,dt:=true,since:=s.time} (by rw[Sc.iT hi];rfl);rw[Sc.set_set]at s4;have s5:=s4.set (hl _) 7 (by omega) (.i s.wait) (({s.pr i with sent:=aim}:Pr).dQ true s.time s.wait) (by rw[Sc.iT hi];simp[Pr.rc,Pr.dQ,hw]);rw[Sc.set_set]at s5;exact s5
theorem Cu{s':Sc}(h:(s'.pr i).num=(s.pr i).num)(t:cC):AV s' i t=AV s i t:=by unfold AV;rw[h]
def lU(O:gq)(s:Sc)(i:Nat)(en aim:Int):Sc:=if en=0∧(s.pr i).sent=0 then{s with r:=(O.hold s.r aim).2}else s
def AX(O:gq)(s:Sc)(i:Nat)(en aim:Int):Int:=if en=0∧(s.pr i).sent=0 then(O.hold s.r aim).1 else en
theorem OT{en aim:Int}:Sq s (lU O s i en aim):=by
 unfold lU;split
 .exact⟨rfl,rfl,rfl,λ_=>rfl⟩
 exact Sq.refl s
theorem K9{en aim:Int}(j:Nat):(lU O s i en aim).pr j=s.pr j:=by unfold lU;split<;>rfl
theorem Eo{g aim:Int}(h:AX O s i (O.send s.r g aim).2 aim≠0):jX O s i g aim=([],jU O (lU O s i (O.send s.r g aim).2 aim) i):=by
 unfold AX at h;by_cases e:(O.send s.r g aim).2=0
 .by_cases e2:(s.pr i).sent=0
  .have ec:(O.send s.r g aim).2=0∧(s.pr i).sent=0:=⟨e,e2⟩;rw[if_pos ec]at h;have e9:fU O s i aim=(false,{s with r:=(O.hold s.r aim).2}):=by unfold fU;rw[if_pos e2,if_neg h]
   have e8:lU O s i (O.send s.r g aim).2 aim={s with r:=(O.hold s.r aim).2}:=by unfold lU;rw[if_pos ec]
   unfold jX;rw[if_pos e,e9,e8];rfl
  have ec:¬((O.send s.r g aim).2=0∧(s.pr i).sent=0):=λh=>e2 h.2;rw[if_neg ec]at h;exact absurd e h
 have ec:¬((O.send s.r g aim).2=0∧(s.pr i).sent=0):=λh=>e h.1;have e8:lU O s i (O.send s.r g aim).2 aim=s:=by unfold lU;rw[if_neg ec]
 unfold jX;rw[if_neg e,e8]
theorem Ie{g aim:Int}(hi:i<s.ps.length)(h:AX O s i (O.send s.r g aim).2 aim=0):jX O s i g aim=([((i:Int),AV s i (O.send s.r g aim).1)],(lU O s i (O.send s.r g aim).2 aim).aX i (({s.pr i with sent:=aim}:Pr).dQ true s.time s.wait)):=by
 unfold AX at h;by_cases e:(O.send s.r g aim).2=0
 .by_cases e2:(s.pr i).sent=0
  .have ec:(O.send s.r g aim).2=0∧(s.pr i).sent=0:=⟨e,e2⟩;rw[if_pos ec]at h;obtain⟨x,hx⟩:∃x,({s with r:=(O.hold s.r aim).2,ps:=s.ps.set i {s.pr i with sent:=aim}}:Sc)=x:=⟨_,rfl⟩;have e9:fU O s i aim=(true,x):=by unfold fU;rw[if_pos e2,if_pos h,hx]
   have e8:lU O s i (O.send s.r g aim).2 aim={s with r:=(O.hold s.r aim).2}:=by unfold lU;rw[if_pos ec]
   have e3:x.pr i={s.pr i with sent:=aim}:=by rw[<-hx];exact Sc.iT (s:={s with r:=(O.hold s.r aim).2}) hi _
   unfold jX;rw[if_pos e,e9,e8];show([((i:Int),AV x i (O.send s.r g aim).1)],x.aX i ((x.pr i).dQ true s.time s.wait))=_;rw[Cu (s:=s) (by rw[e3]),e3,<-hx];simp[Sc.aX]
  have ec:¬((O.send s.r g aim).2=0∧(s.pr i).sent=0):=λh=>e2 h.2;have e9:fU O s i aim=(true,s.aX i {s.pr i with sent:=aim}):=by unfold fU;rw[if_neg e2]
  have e8:lU O s i (O.send s.r g aim).2 aim=s:=by unfold lU;rw[if_neg ec]
  have e3:(s.aX i {s.pr i with sent:=aim}).pr i={s.pr i with sent:=aim}:=Sc.iT hi _;unfold jX;rw[if_pos e,e9,e8];show([((i:Int),AV (s.aX i {s.pr i with sent:=aim}) i (O.send s.r g aim).1)],(s.aX i {s.pr i with sent:=aim}).aX i (((s.aX i {s.pr i with sent:=aim}).pr i).dQ true s.time s.wait))=_;rw[Cu (s:=s) (by rw[e3]),e3,Sc.set_set]
 have ec:¬((O.send s.r g aim).2=0∧(s.pr i).sent=0):=λh=>e h.1;rw[if_neg ec]at h;exact absurd h e
theorem RG.answered(hO:bE O)(h:RG ⟨B,xb,pb,b,RB,ra,rc⟩ w0 F0 s n w)(ho:fG s)(hi:i<s.ps.length)(hwt:(s.pr i).wt=true)(g:Int)(hn:n+30≤1000000000):
 Cl 102 #[.p xb,.i i,.i g] w λe w'=>∃v,e=.returned v∧RO ⟨B,xb,pb,b,RB,ra,rc⟩ w0 F0 (iU O s i g).2 (n+6) v (iU O s i g).1 w':=by
 obtain⟨P,hP⟩:∃P:Sc->Nat->World->Prop,P=RG ⟨B,xb,pb,b,RB,ra,rc⟩ w0 F0:=⟨_,rfl⟩;obtain⟨m,hm⟩:=eX s.ps.length;obtain⟨s1,hs1⟩:=eX (iV O s i g);obtain⟨s2,hs2⟩:=eX (jG O s1 i g);obtain⟨aim,AY⟩:=eX (La s2 i);have hq1:Sq s s1:=by rw[<-hs1];exact Cv
 have hq2:Sq s s2:=by rw[<-hs2];exact hq1.trans Cw
 have hi1:i<s1.ps.length:=by rw[hq1.2.2.1];exact hi
 have hi2:i<s2.ps.length:=by rw[hq2.2.2.1];exact hi
 have ef:iU O s i g=bZ O s2 i g aim:=by unfold iU;rw[hs1,hs2,AY]
 rw[ef];have Xo:w.cell? (Ad xb 11)=some (.slice (some (Ad pb 0)) m m):=by rw[<-hm];exact h.dI.2.2.2.1
 have hc0:cD w xb 0 (.p b):=h.dI.1;have H0:Hid (P s n w):=by rw[hP];exact h
 have HF:Hid (∀s n W W',P s n W->Fr [] W W'->P s n W'):=by rw[hP];exactλ_ _ _ _ h f=>h.same f
 have Ig:Hid (∀W,P s n W->Rc 119 #[.p b,.i g] W (.bool (oV s.r g)) λw'=>P s n w'):=by rw[hP];exactλW hW=>hW.has g
 have FC:Hid (∀W,P s n W->oV s.r g=true->Rc 100 #[.p xb,.i i,.i g] W (.tuple #[]) λw'=>P s1 (n+2) w'):=by rw[hP];intro W hW e;rw[<-hs1];unfold iV;rw[if_pos e];exact hW.knows hO hi ho.ps.2 g (by omega)
 have JJ:Hid (∀W,P s n W->oV s.r g=false->P s1 (n+2) W):=by rw[hP];intro W hW e;rw[<-hs1];unfold iV;rw[if_neg (by rw[e];simp)];exact hW.up (by omega)
 obtain⟨z1,hz1⟩:=eX (s1.pr i).sent;have zN:Hid (∀W,P s1 (n+2) W->W.cell? (Ad pb (i*9+2))=some (.i z1)):=by rw[hP];intro W hW;rw[(hW.aR hi1 2 (by omega)).1,<-hz1];rfl
 have OU:Hid (∀W,P s1 (n+2) W->g=z1->Rc 101 #[.p xb,.i i] W (.tuple #[]) λw'=>P s2 (n+3) w'):=by rw[hP];intro W hW e;rw[<-hs2];unfold jG;rw[if_pos (by rw[hz1];exact e)];exact hW.frees hO hi1 (by omega)
 have TG:Hid (∀W,P s1 (n+2) W->(g≠z1∨g=0)->P s2 (n+3) W):=by
  rw[hP];intro W hW e;rw[<-hs2];unfold jG;by_cases e1:g=z1
  .rw[if_pos (by rw[hz1];exact e1)];unfold bN;rw[if_pos (by rw[hz1];omega)];exact hW.up (by omega)
  rw[if_neg (by rw[hz1];exact e1)];exact hW.up (by omega)
 obtain⟨z2,hz2⟩:=eX (s2.pr i).sent;obtain⟨nw,hnw⟩:=eX (aI s2.r);obtain⟨bw,hbw⟩:=eX (s2.pr i).wt;have jk:aim=if z2=0 then nw else z2:=by rw[<-AY,<-hz2,<-hnw];rfl
 have yE:Hid (∀N W,P s2 N W->W.cell? (Ad xb 0)=some (.p b)∧W.cell? (Ad pb (i*9+2))=some (.i z2)∧W.cell? (Ad pb (i*9+3))=some (.bool bw)∧W.frozen? (Ad pb (i*9+3))=false):=by
  rw[hP];intro N W hW;refine⟨hW.dI.1,?_,?_,(hW.aR hi2 3 (by omega)).2⟩
  .rw[(hW.aR hi2 2 (by omega)).1,<-hz2];rfl
  rw[(hW.aR hi2 3 (by omega)).1,<-hbw];rfl
 have jN:Hid (∀W,P s2 (n+3) W->Rc 92 #[.p b] W (.i nw) λw'=>P s2 (n+3) w'):=by
  rw[hP,<-hnw]
  exactλW hW=>hW.newest
 have HEq:Hid (∀W,P s2 (n+3) W->g=aim->RO ⟨B,xb,pb,b,RB,ra,rc⟩ w0 F0 (bZ O s2 i g aim).2 (n+6) (.slice none 0 0) (bZ O s2 i g aim).1 (W.setCell (Ad pb (i*9+3)) (.bool false))):=by rw[hP];intro W hW e;unfold bZ;rw[if_pos e];exact((hW.set hi2 3 (by omega) (.bool false) {s2.pr i with wt:=false} rfl).up (by omega)).o
 have hok:∀W,RG ⟨B,xb,pb,b,RB,ra,rc⟩ w0 F0 s2 (n+3) W->(O.send s2.r g aim).1.size≤1000∧BC 30 31 (λb=>#[.p b,.i g,.i aim]) s2.r (fT (O.send s2.r g aim)) s2.r:=λW hW=>hO.send s2.r g aim (hW.ok.le (by omega));obtain⟨ST,hST⟩:=eX (O.send s2.r g aim).1;obtain⟨en,hen⟩:=eX (O.send s2.r g aim).2;have TH:Hid (∀W,P s2 (n+3) W->Rc 31 #[.p b,.i g,.i aim] W (.tuple #[.t ST,.i en]) λw'=>P s2 (n+4) w'∧ST.size≤1000):=by
  rw[hP];intro W hW;obtain⟨k1,k2⟩:=hok W hW;have h9:=hW.call k2;have e9:fT (O.send s2.r g aim)=.tuple #[.t ST,.i en]:=by rw[<-hST,<-hen];rfl
  rw[e9]at h9;refine h9.mono ?_;rintro e w' ⟨he,k'⟩;exact⟨he,k',by rw[<-hST];exact k1⟩
 obtain⟨sh,hsh⟩:=eX (lU O s2 i en aim);obtain⟨x,hx⟩:=eX (AX O s2 i en aim);have hq3:Sq s sh:=by rw[<-hsh];exact hq2.trans OT
 have hi3:i<sh.ps.length:=by rw[hq3.2.2.1];exact hi
 have OV:sh.pr i=s2.pr i:=by rw[<-hsh];exact K9 i
 have OW:Hid (∀W,P s2 (n+4) W->en=0->z2=0->Rc 71 #[.p b,.i aim] W (.i x) λw'=>P sh (n+5) w'):=by rw[hP];intro W hW e1 e2;have h9:=hW.call (hO.hold s2.r aim (hW.ok.le (by omega)));rw[<-hx,<-hsh];unfold AX lU;rw[if_pos ⟨e1,by rw[hz2];exact e2⟩,if_pos ⟨e1,by rw[hz2];exact e2⟩];exact h9
 have HHn:Hid (∀W,P s2 (n+4) W->¬(en=0∧z2=0)->x=en∧P sh (n+5) W):=by rw[hP];intro W hW e1;rw[<-hx,<-hsh];unfold AX lU;rw[if_neg (by rw[hz2];exact e1),if_neg (by rw[hz2];exact e1)];exact⟨rfl,hW.up (by omega)⟩
 have TI:Hid (∀W,P sh (n+5) W->W.cell? (Ad xb 0)=some (.p b)∧W.cell? (Ad pb (i*9+3))=some (.bool bw)∧W.frozen? (Ad pb (i*9+3))=false):=by rw[hP];intro W hW;refine⟨hW.dI.1,?_,(hW.aR hi3 3 (by omega)).2⟩;rw[(hW.aR hi3 3 (by omega)).1,OV,<-hbw];rfl
 obtain⟨sg,hsg⟩:∃sg,sh.aX i {sh.pr i with wt:=false}=sg:=⟨_,rfl⟩;obtain⟨nv,jR⟩:=eX (aI sh.r);have hig:i<sg.ps.length:=by rw[<-hsg,Sc.iZ];exact hi3
 have hpg:sg.pr i={sh.pr i with wt:=false}:=by rw[<-hsg];exact Sc.iT hi3 _
 have JN:Hid (∀W,P sh (n+5) W->P sg (n+5) (W.setCell (Ad pb (i*9+3)) (.bool false))):=by
  rw[hP,<-hsg]
  exactλW hW=>hW.set hi3 3 (by omega) (.bool false) _ rfl
 have HG2:Hid (∀W,P sg (n+5) W->W.cell? (Ad xb 0)=some (.p b)∧Rc 92 #[.p b] W (.i nv) λw'=>P sg (n+5) w'):=by
  rw[hP,<-jR];intro W hW;have h9:=hW.newest;have e9:sg.r=sh.r:=by rw[<-hsg];rfl
  rw[e9]at h9;exact⟨hW.dI.1,h9⟩
 obtain⟨gv,hgv⟩:=eX (sh.pr i).gave;have Qv:Hid (∀W,P sg (n+5) W->W.cell? (Ad pb (i*9+1))=some (.i gv)∧W.frozen? (Ad pb (i*9+1))=false):=by rw[hP];intro W hW;refine⟨?_,(hW.aR hig 1 (by omega)).2⟩;rw[(hW.aR hig 1 (by omega)).1,hpg,<-hgv];rfl
 have TJ:Hid (∀W X,P sg (n+5) W->x≠0->g≠aim->Fr [] (W.setCell (Ad pb (i*9+1)) (.i nv)) X->Rc 101 #[.p xb,.i i] X (.tuple #[]) λw'=>RO ⟨B,xb,pb,b,RB,ra,rc⟩ w0 F0 (bZ O s2 i g aim).2 (n+6) (.slice none 0 0) (bZ O s2 i g aim).1 w'):=by
  rw[hP];intro W X hW e1 e2 f;have h8:=(hW.set hig 1 (by omega) (.i nv) {sg.pr i with gave:=nv} rfl).same f;refine(h8.frees hO (i:=i) (by rw[Sc.iZ];exact hig) (by omega)).mono ?_;rintro e w' ⟨he,k'⟩;refine⟨he,?_⟩;have e9:=Eo (O:=O) (s:=s2) (i:=i) (g:=g) (aim:=aim) (by rw[hen,hx];exact e1);unfold bZ;rw[if_neg e2,e9,hen,hsh];have e8:jU O sh i=bN O (sg.aX i {sg.pr i with gave:=nv}) i:=by unfold jU;rw[hpg,<-hsg,Sc.set_set,jR]
  show RO _ _ _ (jU O sh i) _ _ [] _;rw[e8];exact k'.o
 have hti:=ho.time;have jM:=(ho.at hi).1;obtain⟨k,hk⟩:∃k:Nat,(s.pr i).num+1=(k:Int):=⟨((s.pr i).num+1).toNat,by omega⟩;have VG:(sh.pr i).num=(s.pr i).num:=congrArg Prod.fst (hq3.2.2.2 i);have hw3:(sh.pr i).wt=true:=by rw[<-hwt];exact congrArg Prod.snd (hq3.2.2.2 i)
 obtain⟨ti,hte⟩:=eX s.time;obtain⟨sw,hsw⟩:=eX s.wait;obtain⟨nu,hnu⟩:=eX (s.pr i).num;obtain⟨s5,hs5⟩:∃s5,sh.aX i (({sh.pr i with sent:=aim}:Pr).dQ true sh.time sh.wait)=s5:=⟨_,rfl⟩;have OX:Hid (∀W,P sh (n+5) W->∃(y2 y6 y7:Int)(y4:Bool),(W.cell? (Ad pb (i*9+2))=some (.i y2)∧W.cell? (Ad pb (i*9+4))=some (.bool y4)∧W.cell? (Ad pb (i*9+5))=some (.i nu)∧W.cell? (Ad pb (i*9+6))=some (.i y6)∧W.cell? (Ad pb (i*9+7))=some (.i y7))∧(∀j,j<9->W.frozen? (Ad pb (i*9+j))=false)∧W.cell? (Ad xb 10)=some (.i ti)∧W.cell? (Ad xb 5)=some (.i sw)∧xb≠pb):=by rw[hP];intro W hW;refine⟨(sh.pr i).sent,(sh.pr i).since,(sh.pr i).wait,(sh.pr i).dt,⟨(hW.aR hi3 2 (by omega)).1,(hW.aR hi3 4 (by omega)).1,by rw[(hW.aR hi3 5 (by omega)).1,<-hnu,<-VG];rfl,(hW.aR hi3 6 (by omega)).1,(hW.aR hi3 7 (by omega)).1⟩,λj hj=>(hW.aR hi3 j hj).2,by rw[<-hte,<-hq3.2.1];exact hW.dI.2.2.1,by rw[<-hsw,<-hq3.1];exact hW.dI.2.1,?_⟩;obtain⟨F,hW,_⟩:=hW;exact hW.ne
 have HP5:Hid (∀W,P sh (n+5) W->P s5 (n+5) (((((W.setCell (Ad pb (i*9+2)) (.i aim)).setCell (Ad pb (i*9+5)) (.i (nu+1))).setCell (Ad pb (i*9+4)) (.bool true)).setCell (Ad pb (i*9+6)) (.i ti)).setCell (Ad pb (i*9+7)) (.i sw))):=by rw[hP];intro W hW;have h9:=hW.TF hi3 hw3 aim;rw[hs5,VG,hq3.1,hq3.2.1,hnu,hte,hsw]at h9;exact h9
 have Xp:Hid (∀W,P s5 (n+5) W->W.cell? (Ad pb (i*9+5))=some (.i (nu+1))):=by
  rw[hP];intro W hW;have hi5:i<s5.ps.length:=by rw[<-hs5,Sc.iZ];exact hi3
  rw[(hW.aR hi5 5 (by omega)).1,<-hs5,Sc.iT hi3,<-hnu,<-VG];rfl
 obtain⟨T,hT⟩:=eX (AV s2 i ST);have Xq:Hid (∀W,P s5 (n+5) W->x=0->g≠aim->RO ⟨B,xb,pb,b,RB,ra,rc⟩ w0 F0 (bZ O s2 i g aim).2 (n+6) (.slice (some (Ad W.heap.size 0)) 1 1) (bZ O s2 i g aim).1 (W.alloc (.cells #[.i i,.t T] 186))):=by rw[hP];intro W hW e1 e2;have e9:=Ie (O:=O) (s:=s2) (i:=i) (g:=g) (aim:=aim) hi2 (by rw[hen,hx];exact e1);unfold bZ;rw[if_neg e2,e9,hen,hsh,hST,hT,<-OV,hq2.2.1.trans hq3.2.1.symm,hq2.1.trans hq3.1.symm,hs5];exact(hW.up (by omega)).OY _ _
 have uI:Hid ((⟨#[68]⟩++⟨#[eH (i:Int)]⟩++(n4 (nu+1)).ba++ST:cC)=T):=by
  show _=_;rw[<-hT];unfold AV;have e9:(s2.pr i).num=nu:=by rw[<-hnu];exact congrArg Prod.fst (hq2.2.2.2 i)
  rw[e9];refine gG ?_;simp[bU,aW,B4.ba,B4.list']
 have aas:i<3:=by have:=ho.ps;omega
 have HB1:Hid (∀W,Rc 58 #[.i i,.i 1] W (.t ⟨#[eH (i:Int)]⟩) λw'=>Fr [] W w'):=λW=>by have h9:=bP i 1 W (by omega) (by omega);rw[Ak]at h9;exact h9
 have Gz:Hid (∀W,Rc 58 #[.i (nu+1),.i 4] W (.t (n4 (nu+1)).ba) λw'=>Fr [] W w'):=λW=>by have h9:=bP k 4 W (by omega) (by omega);rw[Al]at h9;rw[<-hnu,hk];exact h9
 have aat:0≤nu∧nu≤4000000000:=by rw[<-hnu];exact jM
 obtain⟨PR,kY⟩:∃PR:Value->World->Prop,PR=λv W=>RO ⟨B,xb,pb,b,RB,ra,rc⟩ w0 F0 (bZ O s2 i g aim).2 (n+6) v (bZ O s2 i g aim).1 W:=⟨_,rfl⟩;have HEq:Hid (∀W,P s2 (n+3) W->g=aim->PR (.slice none 0 0) (W.setCell (Ad pb (i*9+3)) (.bool false))):=by rw[kY];exact HEq
 have TJ:Hid (∀W X,P sg (n+5) W->x≠0->g≠aim->Fr [] (W.setCell (Ad pb (i*9+1)) (.i nv)) X->Rc 101 #[.p xb,.i i] X (.tuple #[]) λw'=>PR (.slice none 0 0) w'):=by rw[kY];exact TJ
 have Xq:Hid (∀W,P s5 (n+5) W->x=0->g≠aim->PR (.slice (some (Ad W.heap.size 0)) 1 1) (W.alloc (.cells #[.i i,.t T] 186))):=by rw[kY];exact Xq
 show Cl 102 _ w λe w'=>∃v,e=.returned v∧(λv W=>RO ⟨B,xb,pb,b,RB,ra,rc⟩ w0 F0 (bZ O s2 i g aim).2 (n+6) v (bZ O s2 i g aim).1 W) v w';rw[<-kY];obtain⟨ha,TK⟩:=eX (oV s.r g);rw[TK]at Ig FC JJ;have him:(i:Int)<(m:Int):=by omega
 have hi0:(0:Int)≤(i:Int):=by omega
 clear h ho hi hP hm hs1 hs2 AY hq1 hq2 hi1 hi2 ef hz1 hz2 hnw hok hST hen hsh hx hq3 hi3 OV hsg jR hig hpg hgv kY hT TK hsw hO hbw hwt hti jM hk VG hw3 hte hnu hs5;go_enter Tryz.func102,Tryz.ntmps102;go_upto_if 24 with(go_at_call 119;refine(Ig.o _ (by first|exact H0.o|exact HF.o _ _ _ _ H0.o (Fr.refl [] w).drew)).mono ?_;rintro e wa ⟨rfl,ka⟩;have Ha:=Hd ka;clear ka);go_cut [] from 12 (λwx=>Hid (P s1 (n+2) wx))
 case first=>
  cases ha with
  |true=>
   go_wp2_with (go_at_call 100;refine(FC.o _ (by first|exact Ha.o|exact HF.o _ _ _ _ Ha.o (Fr.refl [] wa).drew) (by first|rfl|trivial)).mono ?_;rintro e wb ⟨rfl,kb⟩;have Hb:=Hd kb;clear kb);go_meet;exact Hb
  |false=>
   go_wp2;go_meet;exact JJ.o _ Ha.o (by first|rfl|trivial)
 case rest=>
 have H1:=Hd hcut;obtain⟨w1,hw1⟩:=eY wc;subst hw1;clear hcut Ha H0 Xo hc0;have d1:=zN.o _ H1.o;obtain⟨c,hc⟩:=eX (g != 0&&g==z1);go_upto_region 5 with fail;go_cut [38] from 12 (λv wx=>v=.bool c∧wx=w1)
 case first=>
  by_cases e:g=0
  .have q:(g != 0)=false:=by simpa using e
   rw[q]at hc;simp at hc;subst hc;clear e;go_wp2;go_meet;exact⟨rfl,rfl⟩
  have q:(g != 0)=true:=by simpa using e
  rw[q,js]at hc;subst hc;clear e;go_wp2;go_meet;exact⟨rfl,rfl⟩
 case rest=>
 obtain⟨rfl,hw⟩:=hcut;subst hw;go_upto_if 38 with fail;go_cut [] from 12 (λwx=>Hid (P s2 (n+3) wx))
 case first=>
  cases c with
  |true=>
   have E:Hid (g=z1):=by simp at hc;exact hc.2
   clear hc;go_wp2_with (go_at_call 101;refine(OU.o _ (by first|exact H1.o|exact HF.o _ _ _ _ H1.o (Fr.refl [] _).drew) E.o).mono ?_;rintro e wb ⟨rfl,kb⟩;have Hb:=Hd kb;clear kb);go_meet;exact Hb
  |false=>
   have K2:Hid (P s2 (n+3) wc):=TG.o _ H1.o (by
    by_cases e:g=0
    .exact Or.inr e
    left;intro e1;rw[e1]at hc e;simp[e]at hc)
   clear hc;go_wp2;go_meet;exact K2
 case rest=>
 have H2:=Hd hcut;obtain⟨w2,hw2⟩:=eY wc;subst hw2;clear hcut H1 d1 hc;obtain⟨c0,d1,d3,y3⟩:=yE.o _ _ H2.o;go_upto_if 47 with fail;go_cut [9] from 12 (λv wx=>v=.i aim∧Hid (P s2 (n+3) wx))
 case first=>
  by_cases e:z2=0
  .have q:(z2==0)=true:=by simpa using e
   rw[if_pos e]at jk;have E:=Hd jk;clear e jk;go_wp2_with (go_at_call 92;refine(jN.o _ (by first|exact H2.o|exact HF.o _ _ _ _ H2.o (Fr.refl [] w2).drew)).mono ?_;rintro e wb ⟨rfl,kb⟩;have Hb:=Hd kb;clear kb);go_meet;exact⟨by rw[E.o],Hb⟩
  have q:(z2==0)=false:=by simpa using e
  rw[if_neg e]at jk;have E:=Hd jk;clear e jk;go_wp2;go_meet;exact⟨by rw[E.o],H2⟩
 case rest=>
 obtain⟨rfl,H3⟩:=hcut;obtain⟨w3,hw3⟩:=eY wc;subst hw3;clear H2 c0 d1 d3 y3 jk;obtain⟨c0,d1,d3,y3⟩:=yE.o _ _ H3.o;by_cases ea:g=aim
 .have q:(g==aim)=true:=by simpa using ea
  have K:=HEq.o _ H3.o ea;clear ea;go_wp2;go_ret;exact⟨_,rfl,K⟩
 have q:(g==aim)=false:=by simpa using ea
 have EA:=Hd ea;clear ea;go_upto_region 14 with(go_at_call 31;refine(TH.o _ (by first|exact H3.o|exact HF.o _ _ _ _ H3.o (Fr.refl [] w3).drew)).mono ?_;rintro e w4 ⟨rfl,k4,hsz⟩;have H4:=Hd k4;clear k4;obtain⟨b0,b1,_,_⟩:=yE.o _ _ H4.o);clear H3 c0 d1 d3 y3;obtain⟨c,hc⟩:=eX (en==0&&z2==0);go_cut [77] from 12 (λv wx=>v=.bool c∧wx=w4)
 case first=>
  by_cases e:en=0
  .have q:(en==0)=true:=by simpa using e
   rw[q]at hc;try rw[js]at hc
   try rw[jz]at hc
   subst hc;clear e;go_wp2;go_meet;exact⟨rfl,rfl⟩
  have q:(en==0)=false:=by simpa using e
  rw[q]at hc;try rw[js]at hc
  try rw[jz]at hc
  subst hc;clear e;go_wp2;go_meet;exact⟨rfl,rfl⟩
 case rest=>
 obtain⟨rfl,hw⟩:=hcut;subst hw;go_upto_if 77 with fail;go_cut [11] from 12 (λv wx=>v=.i x∧Hid (P sh (n+5) wx))
 case first=>
  cases c with
  |true=>
   have E1:Hid (en=0):=by simp at hc;exact hc.1
   have E2:Hid (z2=0):=by simp at hc;exact hc.2
   clear hc;go_wp2_with (go_at_call 71;refine(OW.o _ (by first|exact H4.o|exact HF.o _ _ _ _ H4.o (Fr.refl [] _).drew) E1.o E2.o).mono ?_;rintro e wb ⟨rfl,kb⟩;have Hb:=Hd kb;clear kb);go_meet;exact⟨rfl,Hb⟩
  |false=>
   have K2:=Hd (HHn.o _ H4.o (λh=>by rw[h.1,h.2]at hc;simp at hc));clear hc;go_wp2;go_meet;exact⟨by rw[K2.o.1],K2.o.2⟩
 case rest=>
 obtain⟨rfl,H5⟩:=hcut;clear H4 b0 b1 hc;obtain⟨w5,hw5⟩:=eY wc;subst hw5;by_cases ex:x=0
 .have qx:(x != 0)=false:=by simpa using ex
  have EX:Hid (x=0):=ex;clear ex;obtain⟨y2,y6,y7,y4,⟨d2,d4,d5,d6,d7⟩,z,c10,c5,hxp⟩:=OX.o _ H5.o;have z2:=z 2 (by omega);have z4:=z 4 (by omega);have z5:=z 5 (by omega);have z6:=z 6 (by omega);have z7:=z 7 (by omega);clear z;have e1:IntKind.i64.wrap (nu+1)=nu+1:=aD ⟨by omega,by omega⟩;obtain⟨W5,kJ⟩:=eX (((((w5.setCell (Ad pb (i*9+2)) (.i aim)).setCell (Ad pb (i*9+5)) (.i (nu+1))).setCell (Ad pb (i*9+4)) (.bool true)).setCell (Ad pb (i*9+6)) (.i ti)).setCell (Ad pb (i*9+7)) (.i sw));have H6:Hid (P s5 (n+5) W5):=by rw[<-kJ];exact HP5.o _ H5.o
  have v5:=Xp.o _ H6.o;go_upto_region 26 with fail;try rw[kJ]
  clear c10 c5 d2 d4 d5 d6 d7 z2 z4 z5 z6 z7 kJ H5;have hn4:(n4 (nu+1)).ba.size=4:=rfl;go_region_held (λw'=>w'.cell? ⟨pb,i*9+5,none⟩=some (.int .i64 (nu+1)))
   (first
     |go_keep
     |exact Xp.o _ H7.o
     |exact Xp.o _ H8.o)
   (first
     |(go_at_call_of 58 (Value.int .i64 4);refine(Gz.o _).mono ?_;rintro e w7 ⟨rfl,f7⟩;have H8:Hid (P s5 (n+5) w7):=(by first|exact HF.o _ _ _ _ H7.o f7|exact HF.o _ _ _ _ (HF.o _ _ _ _ H7.o (Fr.refl [] _).drew) f7);clear f7)
     |(go_at_call_of 58 (Value.int .i64 1);refine(HB1.o _).mono ?_;rintro e w6 ⟨rfl,f6⟩;have H7:Hid (P s5 (n+5) w6):=(by first|exact HF.o _ _ _ _ H6.o f6|exact HF.o _ _ _ _ (HF.o _ _ _ _ H6.o (Fr.refl [] _).drew) f6);clear f6))
  all_goals
   go_wp2;rw[uI.o];go_ret;exact⟨_,rfl,Xq.o _ H8.o EX.o EA.o⟩
 have qx:(x != 0)=true:=by simpa using ex
 have EX:=Hd ex;clear ex;obtain⟨c0,d3,y3⟩:=TI.o _ H5.o;obtain⟨w6,QI⟩:=eX (w5.setCell (Ad pb (i*9+3)) (.bool false));have H6:Hid (P sg (n+5) w6):=by rw[<-QI];exact JN.o _ H5.o
 have b0:=(HG2.o _ H6.o).1;go_upto_region 18 with fail;try rw[QI]
 clear QI c0 d3 y3 H5;go_wp2_with (first
  |(go_at_call 101;refine(TJ.o _ _ H7.o EX.o EA.o (by first|exact Fr.refl [] _|exact(Fr.refl [] _).drew)).mono ?_;rintro e w8 ⟨rfl,k8⟩;have H8:=Hd k8;clear k8)
  |(go_at_call 92;refine((HG2.o _ (by first|exact H6.o|exact HF.o _ _ _ _ H6.o (Fr.refl [] _).drew)).2).mono ?_;rintro e w7 ⟨rfl,k7⟩;have H7:=Hd k7;clear k7;obtain⟨d1,y1⟩:=Qv.o _ H7.o))
 go_ret;exact⟨_,rfl,H8.o⟩
end
end Go.Proofs.YtjceeemlilnplaaGreatDoor
