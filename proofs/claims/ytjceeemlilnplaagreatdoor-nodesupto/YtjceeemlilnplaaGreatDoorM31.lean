import Derived.Test.YtjceeemlilnplaaGreatDoorM30
import Derived.Deep.CutRange
set_option maxRecDepth 100000
set_option maxHeartbeats 12800000
set_option linter.all false
namespace Go.Proofs.YtjceeemlilnplaaGreatDoor
open Go.RowKit Go.Maps Go.MuLone
section
variable {B xb pb b RB:Nat}{ra:Option Addr}{rc:Nat}{w w' w0 W W':World}{F F' F0 L:List Nat}{s:Sc}{n n':Nat}{r r':ak}{O:gq}{p:Pl}{i:Nat}
theorem PG.GN(hO:bE O)(h:PG ⟨B,xb,pb,b,RB,ra,rc⟩ w0 F0 s n w)(hi:i<s.ps.length)(aim:Int)(hn:n+10≤1000000000):
 Rc 141 #[.p xb,.pointer (some (Ad pb (i*7))),.i aim] w (.bool (fU O s i aim).1) λw'=>PG ⟨B,xb,pb,b,RB,ra,rc⟩ w0 F0 (fU O s i aim).2 (n+1) w':=by
 obtain⟨c0,_⟩:=h.dI;obtain⟨d1,z1⟩:=h.aR hi 1 (by omega);replace d1:w.cell? (Ad pb (i*7+1))=some (.i (s.pr i).sent):=d1;obtain⟨z,hz⟩:=eX (s.pr i).sent;rw[hz]at d1;unfold fU;rw[hz];by_cases h0:z=0
 .rw[if_pos h0];have q0:(z==0)=true:=by simpa using h0
  obtain⟨en,hen⟩:=eX (O.hold s.r aim).1;obtain⟨s1,hs1⟩:∃s1,({s with r:=(O.hold s.r aim).2}:Sc)=s1:=⟨_,rfl⟩;have e1:s1.ps=s.ps∧s1.pr i=s.pr i:=by rw[<-hs1];exact⟨rfl,rfl⟩
  have e2:({s with r:=(O.hold s.r aim).2,ps:=s.ps.set i {s.pr i with sent:=aim}}:Sc)=s1.aX i {s1.pr i with sent:=aim}:=by rw[<-hs1];rfl
  rw[e2,hs1,hen];have HC:Hid (∀W,Fr [] w W->Rc 70 #[.p b,.i aim] W (.i en) λw'=>PG ⟨B,xb,pb,b,RB,ra,rc⟩ w0 F0 s1 (n+1) w'):=λW f=>by have h9:=(h.same f).call (hO.hold s.r aim (h.ok.le (by omega))) (by omega);rw[hen,hs1]at h9;exact h9
  have HI:Hid (i<s1.ps.length∧(s1.pr i).sent=z):=⟨by rw[e1.1];exact hi,by rw[e1.2];exact hz⟩;clear h hi hz e1 e2 hs1 hen z1 h0;by_cases he:en=0
  .subst he;rw[if_pos rfl];go_enter Tryz.func141,Tryz.ntmps141;go_wp2_with (go_at_call 70;refine(HC.o _ (by first|exact Fr.refl [] w|exact(Fr.refl [] w).drew)).mono ?_;rintro e w2 ⟨rfl,k2⟩;have H2:=Hd k2;clear k2;obtain⟨d2,z2⟩:=H2.o.aR HI.o.1 1 (by omega);replace d2:w2.cell? (Ad pb (i*7+1))=some (.i (s1.pr i).sent):=d2;rw[HI.o.2]at d2);go_ret;exact⟨rfl,H2.o.set HI.o.1 1 (by omega) (.i aim) {s1.pr i with sent:=aim} rfl⟩
  have qe:(en != 0)=true:=by simpa using he
  rw[if_neg he];go_enter Tryz.func141,Tryz.ntmps141;go_wp2_with (go_at_call 70;refine(HC.o _ (by first|exact Fr.refl [] w|exact(Fr.refl [] w).drew)).mono ?_;rintro e w2 ⟨rfl,k2⟩;have H2:=Hd k2;clear k2);go_ret;exact⟨rfl,H2.o⟩
 rw[if_neg h0];have q0:(z==0)=false:=by simpa using h0
 have H1:Hid (PG ⟨B,xb,pb,b,RB,ra,rc⟩ w0 F0 (s.aX i {s.pr i with sent:=aim}) (n+1) (w.setCell (Ad pb (i*7+1)) (.i aim))):=(h.set hi 1 (by omega) (.i aim) {s.pr i with sent:=aim} rfl).up (by omega);clear h hi hz h0;go_enter Tryz.func141,Tryz.ntmps141;go_wp2;go_ret;exact⟨rfl,H1.o⟩
theorem PG.giveUp(hO:bE O)(h:PG ⟨B,xb,pb,b,RB,ra,rc⟩ w0 F0 s n w)(hi:i<s.ps.length)(hn:n+10≤1000000000):
 Rc 142 #[.p xb,.pointer (some (Ad pb (i*7)))] w (.tuple #[]) λw'=>PG ⟨B,xb,pb,b,RB,ra,rc⟩ w0 F0 (jU O s i) (n+1) w':=by
 obtain⟨d4,z4⟩:=h.aR hi 4 (by omega);replace d4:w.cell? (Ad pb (i*7+4))=some (.u (s.pr i).aw):=d4;obtain⟨a,ha⟩:=eX (s.pr i).aw;rw[ha]at d4;have h1:=h.set hi 4 (by omega) (.u 0) {s.pr i with wt:=false} rfl;obtain⟨w1,hw1⟩:=eX (w.setCell (Ad pb (i*7+4)) (.u 0));rw[hw1]at h1;obtain⟨s1,hs1⟩:∃s1,s.aX i {s.pr i with wt:=false}=s1:=⟨_,rfl⟩;rw[hs1]at h1;have hi1:i<s1.ps.length:=by rw[<-hs1,Sc.iZ];exact hi
 have er:s1.r=s.r:=by rw[<-hs1];rfl
 have ep:s1.pr i={s.pr i with wt:=false}:=by rw[<-hs1,Sc.iT hi]
 have HN:Hid (∀W,Fr [] w1 W->Rc 88 #[.p xb] W (.i (aI s.r)) λw'=>PG ⟨B,xb,pb,b,RB,ra,rc⟩ w0 F0 s1 n w'):=λW f=>by have h9:=(h1.same f).newest;rw[er]at h9;exact h9
 have HG:Hid (∀W,PG ⟨B,xb,pb,b,RB,ra,rc⟩ w0 F0 s1 n W->∃gv,W.cell? (Ad pb (i*7+2))=some (.i gv)∧W.frozen? (Ad pb (i*7+2))=false∧∀X,Fr [] (W.setCell (Ad pb (i*7+2)) (.i (aI s.r))) X->Rc 97 #[.p xb,.pointer (some (Ad pb (i*7)))] X (.tuple #[]) λw'=>PG ⟨B,xb,pb,b,RB,ra,rc⟩ w0 F0 (jU O s i) (n+1) w'):=λW hW=>by
  obtain⟨d2,z2⟩:=hW.aR hi1 2 (by omega);refine⟨_,d2,z2,λX f=>?_⟩;have h9:=(hW.set hi1 2 (by omega) (.i (aI s.r)) {s1.pr i with gave:=aI s.r} rfl).same f;have h8:=h9.forget hO (i:=i) (by rw[Sc.iZ];exact hi1) hn;have e8:bN O (s1.aX i {s1.pr i with gave:=aI s.r}) i=jU O s i:=by unfold jU;rw[ep,<-hs1,Sc.set_set]
  rw[e8]at h8;exact h8
 clear h h1 hi hi1 er ep hs1 ha;go_enter Tryz.func142,Tryz.ntmps142;go_wp2_with (first
  |(go_at_call 97;refine(K2.o _ (by first|exact Fr.refl [] _|exact(Fr.refl [] _).drew)).mono ?_;rintro e w3 ⟨rfl,k3⟩;have H3:=Hd k3;clear k3)
  |(go_at_call 88;refine(HN.o _ (by first|exact Fr.refl [] _|exact(Fr.refl [] _).drew)).mono ?_;rintro e w2 ⟨rfl,k2⟩;obtain⟨gv,d2,z2,k3⟩:=HG.o _ k2;have K2:=Hd k3;clear k2 k3))
 go_end0;exact⟨rfl,H3.o⟩
end
def iO(l:List (Int×cC)):List Value:=l.flatMap λx=>[.i x.1,.t x.2]
def PO(p:Pl)(w0:World)(F0:List Nat)(s:Sc)(n:Nat)(v:Value)(ls:List (Int×cC))(W:World):Prop:=∃F,SP p.B p.xb p.pb p.b p.RB p.ra p.rc W F s n∧Gw ([p.xb,p.pb]++F0) ([p.xb,p.pb]++F) w0 W∧Ow F W w0.heap.size 186 2 v ls.length (iO ls)
def RO(p:Pl)(w0:World)(F0:List Nat)(s:Sc)(n:Nat)(v:Value)(ls:List (Int×cC))(W:World):Prop:=∃F,SR p.B p.xb p.pb p.b p.RB p.ra p.rc W F s n∧Gw ([p.xb,p.pb]++F0) ([p.xb,p.pb]++F) w0 W∧Ow F W w0.heap.size 186 2 v ls.length (iO ls)
def iV(O:gq)(s:Sc)(i:Nat)(g:Int):Sc:=if oV s.r g then bO O s i g else s
def jG(O:gq)(s:Sc)(i:Nat)(g:Int):Sc:=if g=(s.pr i).sent then bN O s i else s
def La(s:Sc)(i:Nat):Int:=if(s.pr i).sent=0 then aI s.r else(s.pr i).sent
def AV(s:Sc)(i:Nat)(t:cC):cC:=bU (aW 68 i ((s.pr i).num+1)++t.data.toList)
def jX(O:gq)(s:Sc)(i:Nat)(g aim:Int):List (Int×cC)×Sc:=
 if(O.send s.r g aim).2=0 then
  (if(fU O s i aim).1 then([((i:Int),AV (fU O s i aim).2 i (O.send s.r g aim).1)],(fU O s i aim).2.aX i (((fU O s i aim).2.pr i).dQ true s.time s.wait))else([],jU O (fU O s i aim).2 i))
 else([],jU O s i)
def bZ(O:gq)(s:Sc)(i:Nat)(g aim:Int):List (Int×cC)×Sc:=if g=aim then([],s.aX i {s.pr i with wt:=false})else jX O s i g aim
def iU(O:gq)(s:Sc)(i:Nat)(g:Int):List (Int×cC)×Sc:=bZ O (jG O (iV O s i g) i g) i g (La (jG O (iV O s i g) i g) i)
section
variable {B xb pb b RB:Nat}{ra:Option Addr}{rc:Nat}{w w' w0 W W':World}{F F' F0 L:List Nat}{s:Sc}{n n':Nat}{r r':ak}{O:gq}{p:Pl}{i:Nat}
theorem PG.o(h:PG p w0 F0 s n W):PO p w0 F0 s n (.slice none 0 0) [] W:=by obtain⟨F,h,g⟩:=h;exact⟨F,h,g,eA _ _ _ _,λy hy=>by cases hy⟩
theorem RG.o(h:RG p w0 F0 s n W):RO p w0 F0 s n (.slice none 0 0) [] W:=by obtain⟨F,h,g⟩:=h;exact⟨F,h,g,eA _ _ _ _,λy hy=>by cases hy⟩
theorem rX(i:Int)(T:cC)(h:w.heap.size≤W.heap.size):(W.alloc (.cells #[.i i,.t T] 186)).ownsRow w.heap.size 186 2 (.slice (some (Ad W.heap.size 0)) 1 1) 1 (iO [(i,T)]):=
 ⟨rfl,Or.inr ⟨W.heap.size,1,#[.i i,.t T],rfl,h,di W _,eh _,by unfold maxLen;omega,rfl,rfl⟩⟩
theorem PG.OY(h:PG p w0 F0 s n W)(i:Int)(T:cC):PO p w0 F0 s n (.slice (some (Ad W.heap.size 0)) 1 1) [(i,T)] (W.alloc (.cells #[.i i,.t T] 186)):=by
 obtain⟨F,h,g⟩:=h;have f:Fr [] W (W.alloc (.cells #[.i i,.t T] 186)):=fR.alloc _;refine⟨F,h.same f,g.trans (Gw.of f),rX i T g.1.size,λy hy=>?_⟩;have e:W.heap.size=y:=by simpa[Value.ownBlock]using hy
 exact h.sk.new (by omega)
theorem RG.OY(h:RG p w0 F0 s n W)(i:Int)(T:cC):RO p w0 F0 s n (.slice (some (Ad W.heap.size 0)) 1 1) [(i,T)] (W.alloc (.cells #[.i i,.t T] 186)):=by
 obtain⟨F,h,g⟩:=h;have f:Fr [] W (W.alloc (.cells #[.i i,.t T] 186)):=fR.alloc _;refine⟨F,h.same f,g.trans (Gw.of f),rX i T g.1.size,λy hy=>?_⟩;have e:W.heap.size=y:=by simpa[Value.ownBlock]using hy
 exact h.sk.new (by omega)
theorem PG.post(h:PG ⟨B,xb,pb,b,RB,ra,rc⟩ w0 F0 s n W)(hi:i<s.ps.length)(st:cC)(hst:st.size≤1000)(jM:0≤(s.pr i).num∧(s.pr i).num≤4000000000)(uf:0≤s.wait∧s.wait≤1000000)(hti:0≤s.time∧s.time≤1073741824):Rc 137 #[.p xb,.i i,.agg #[.u 68,.i 0,.i 0,.t st,.i 0],.i s.wait] W (.agg #[.i i,.t (AV s i st)]) λw'=>PG ⟨B,xb,pb,b,RB,ra,rc⟩ w0 F0 (s.aX i ((s.pr i).dQ true s.time s.wait)) n w':=by obtain⟨F,h,g⟩:=h;refine(Gy h hi true 68 rfl st (AV s i st) s.wait jM uf hti (λW=>DY 68 i _ st 0 W rfl (by omega))).mono ?_;rintro e w' ⟨he,k',g'⟩;exact⟨he,F,k',g.trans g'⟩
def Pr.key(p:Pr):Int×Bool:=(p.num,p.wt)
def Sq(s s':Sc):Prop:=s'.wait=s.wait∧s'.time=s.time∧s'.ps.length=s.ps.length∧∀i,(s'.pr i).key=(s.pr i).key
theorem AZ{q:Pr}(hq:q.key=(s.pr i).key)(j:Nat):((s.aX i q).pr j).key=(s.pr j).key:=by
 unfold Sc.pr Sc.aX;simp only[List.getD_eq_getElem?_getD,List.getElem?_set];by_cases e:i=j
 .subst e;by_cases hi:i<s.ps.length
  .rw[if_pos rfl,if_pos hi,Option.getD_some,hq,Sc.dn hi];simp[hi]
  rw[if_pos rfl,if_neg hi];simp[Nat.le_of_not_lt hi]
 rw[if_neg e]
theorem Sq.refl(s:Sc):Sq s s:=⟨rfl,rfl,rfl,λ_=>rfl⟩
theorem Sq.trans{s' s'':Sc}(h:Sq s s')(h':Sq s' s''):Sq s s'':=⟨h'.1.trans h.1,h'.2.1.trans h.2.1,h'.2.2.1.trans h.2.2.1,λi=>(h'.2.2.2 i).trans (h.2.2.2 i)⟩
theorem Sq.aX{q:Pr}(hq:q.key=(s.pr i).key)(r:ak):Sq s {s with r:=r,ps:=s.ps.set i q}:=⟨rfl,rfl,eR,λj=>AZ hq j⟩
theorem Im:Sq s (bN O s i):=by
 unfold bN;split
 .exact Sq.refl s
 exact Sq.aX (q:={s.pr i with sent:=0}) rfl _
theorem Io{g:Int}:Sq s (bO O s i g):=by
 unfold bO;split
 .exact Sq.aX (q:={s.pr i with known:=g}) rfl _
 exact Sq.aX (q:={s.pr i with known:=g}) rfl _
theorem Cv{g:Int}:Sq s (iV O s i g):=by
 unfold iV;split
 .exact Io
 exact Sq.refl s
theorem Cw{g:Int}:Sq s (jG O s i g):=by
 unfold jG;split
 .exact Im
 exact Sq.refl s
theorem Lg{aim:Int}:Sq s (fU O s i aim).2:=by
 unfold fU;split
 .split
  .exact Sq.aX (q:={s.pr i with sent:=aim}) rfl _
  exact⟨rfl,rfl,rfl,λ_=>rfl⟩
 exact Sq.aX (q:={s.pr i with sent:=aim}) rfl _
theorem PG.send(hO:bE O)(h:PG ⟨B,xb,pb,b,RB,ra,rc⟩ w0 F0 s n w)(ho:fG s)(hi:i<s.ps.length)(g:Int)(hn:n+30≤1000000000):
 Cl 95 #[.p xb,.i i,.i g] w λe w'=>∃v,e=.returned v∧PO ⟨B,xb,pb,b,RB,ra,rc⟩ w0 F0 (iU O s i g).2 (n+6) v (iU O s i g).1 w':=by
 obtain⟨P,hP⟩:∃P:Sc->Nat->World->Prop,P=PG ⟨B,xb,pb,b,RB,ra,rc⟩ w0 F0:=⟨_,rfl⟩;obtain⟨m,hm⟩:=eX s.ps.length;obtain⟨s1,hs1⟩:=eX (iV O s i g);obtain⟨s2,hs2⟩:=eX (jG O s1 i g);obtain⟨aim,AY⟩:=eX (La s2 i);have hq1:Sq s s1:=by rw[<-hs1];exact Cv
 have hq2:Sq s s2:=by rw[<-hs2];exact hq1.trans Cw
 have hi1:i<s1.ps.length:=by rw[hq1.2.2.1];exact hi
 have hi2:i<s2.ps.length:=by rw[hq2.2.2.1];exact hi
 have ef:iU O s i g=bZ O s2 i g aim:=by unfold iU;rw[hs1,hs2,AY]
 rw[ef];have hc7:w.cell? (Ad xb 7)=some (.slice (some (Ad pb 0)) m m):=by rw[<-hm];exact h.dI.2.2.2.1
 have H0:Hid (P s n w):=by rw[hP];exact h
 have HF:Hid (∀s n W W',P s n W->Fr [] W W'->P s n W'):=by rw[hP];exactλ_ _ _ _ h f=>h.same f
 have Ig:Hid (∀W,P s n W->Rc 140 #[.p xb,.i g] W (.bool (oV s.r g)) λw'=>P s n w'):=by rw[hP];exactλW hW=>hW.has g
 have FC:Hid (∀W,P s n W->oV s.r g=true->Rc 96 #[.p xb,.i i,.i g] W (.tuple #[]) λw'=>P s1 (n+2) w'):=by rw[hP];intro W hW e;rw[<-hs1];unfold iV;rw[if_pos e];exact hW.learn hO hi ho.ps.2 g (by omega)
 have JJ:Hid (∀W,P s n W->oV s.r g=false->P s1 (n+2) W):=by rw[hP];intro W hW e;rw[<-hs1];unfold iV;rw[if_neg (by rw[e];simp)];exact hW.up (by omega)
 obtain⟨z1,hz1⟩:=eX (s1.pr i).sent;have zN:Hid (∀W,P s1 (n+2) W->W.cell? (Ad pb (i*7+1))=some (.i z1)):=by rw[hP];intro W hW;rw[(hW.aR hi1 1 (by omega)).1,<-hz1];rfl
 have OU:Hid (∀W,P s1 (n+2) W->g=z1->Rc 97 #[.p xb,.pointer (some (Ad pb (i*7)))] W (.tuple #[]) λw'=>P s2 (n+3) w'):=by rw[hP];intro W hW e;rw[<-hs2];unfold jG;rw[if_pos (by rw[hz1];exact e)];exact hW.forget hO hi1 (by omega)
 have TG:Hid (∀W,P s1 (n+2) W->g≠z1->P s2 (n+3) W):=by rw[hP];intro W hW e;rw[<-hs2];unfold jG;rw[if_neg (by rw[hz1];exact e)];exact hW.up (by omega)
 obtain⟨z2,hz2⟩:=eX (s2.pr i).sent;obtain⟨a2,ha2⟩:=eX (s2.pr i).aw;obtain⟨nw,hnw⟩:=eX (aI s2.r);have jk:aim=if z2=0 then nw else z2:=by rw[<-AY,<-hz2,<-hnw];rfl
 have yE:Hid (∀W,P s2 (n+3) W->W.cell? (Ad xb 0)=some (.p b)∧W.cell? (Ad pb (i*7+1))=some (.i z2)∧W.cell? (Ad pb (i*7+4))=some (.u a2)∧W.frozen? (Ad pb (i*7+4))=false):=by
  rw[hP];intro W hW;refine⟨hW.dI.1,?_,?_,(hW.aR hi2 4 (by omega)).2⟩
  .rw[(hW.aR hi2 1 (by omega)).1,<-hz2];rfl
  rw[(hW.aR hi2 4 (by omega)).1,<-ha2];rfl
 have jN:Hid (∀W,P s2 (n+3) W->Rc 88 #[.p xb] W (.i nw) λw'=>P s2 (n+3) w'):=by
  rw[hP,<-hnw]
  exactλW hW=>hW.newest
 have HEq:Hid (∀W,P s2 (n+3) W->g=aim->PO ⟨B,xb,pb,b,RB,ra,rc⟩ w0 F0 (bZ O s2 i g aim).2 (n+6) (.slice none 0 0) (bZ O s2 i g aim).1 (W.setCell (Ad pb (i*7+4)) (.u 0))):=by rw[hP];intro W hW e;unfold bZ;rw[if_pos e];exact((hW.set hi2 4 (by omega) (.u 0) {s2.pr i with wt:=false} rfl).up (by omega)).o
 have hok:∀W,PG ⟨B,xb,pb,b,RB,ra,rc⟩ w0 F0 s2 (n+3) W->(O.send s2.r g aim).1.size≤1000∧BC 30 31 (λb=>#[.p b,.i g,.i aim]) s2.r (fT (O.send s2.r g aim)) s2.r:=λW hW=>hO.send s2.r g aim (hW.ok.le (by omega));obtain⟨ST,hST⟩:=eX (O.send s2.r g aim).1;obtain⟨en,hen⟩:=eX (O.send s2.r g aim).2;have TH:Hid (∀W,P s2 (n+3) W->Rc 30 #[.p b,.i g,.i aim] W (.tuple #[.t ST,.i en]) λw'=>P s2 (n+4) w'∧ST.size≤1000):=by
  rw[hP];intro W hW;obtain⟨k1,k2⟩:=hok W hW;have h9:=hW.call k2 (by omega);have e9:fT (O.send s2.r g aim)=.tuple #[.t ST,.i en]:=by rw[<-hST,<-hen];rfl
  rw[e9]at h9;refine h9.mono ?_;rintro e w' ⟨he,k'⟩;exact⟨he,k',by rw[<-hST];exact k1⟩
 obtain⟨hb,VJ⟩:=eX (fU O s2 i aim).1;obtain⟨s3,hs3⟩:=eX (fU O s2 i aim).2;have hq3:Sq s s3:=by rw[<-hs3];exact hq2.trans Lg
 have hi3:i<s3.ps.length:=by rw[hq3.2.2.1];exact hi
 have OW:Hid (∀W,P s2 (n+4) W->Rc 141 #[.p xb,.pointer (some (Ad pb (i*7))),.i aim] W (.bool hb) λw'=>P s3 (n+5) w'):=by
  rw[hP,<-VJ,<-hs3]
  exactλW hW=>hW.GN hO hi2 aim (by omega)
 have TT:Hid (∀W,P s2 (n+4) W->en≠0->g≠aim->Rc 142 #[.p xb,.pointer (some (Ad pb (i*7)))] W (.tuple #[]) λw'=>PO ⟨B,xb,pb,b,RB,ra,rc⟩ w0 F0 (bZ O s2 i g aim).2 (n+6) (.slice none 0 0) (bZ O s2 i g aim).1 w'):=by rw[hP];intro W hW e1 e2;refine(hW.giveUp hO hi2 (by omega)).mono ?_;rintro e w' ⟨he,k'⟩;refine⟨he,?_⟩;unfold bZ jX;rw[if_neg e2,hen,if_neg e1];exact(k'.up (by omega)).o
 have TV:Hid (∀W,P s3 (n+5) W->en=0->hb=false->g≠aim->Rc 142 #[.p xb,.pointer (some (Ad pb (i*7)))] W (.tuple #[]) λw'=>PO ⟨B,xb,pb,b,RB,ra,rc⟩ w0 F0 (bZ O s2 i g aim).2 (n+6) (.slice none 0 0) (bZ O s2 i g aim).1 w'):=by rw[hP];intro W hW e1 e2 e3;refine(hW.giveUp hO hi3 (by omega)).mono ?_;rintro e w' ⟨he,k'⟩;refine⟨he,?_⟩;unfold bZ jX;rw[if_neg e3,hen,if_pos e1,VJ,e2,if_neg (by simp),hs3];exact(k'.up (by omega)).o
 have TI:Hid (∀W,P s3 (n+5) W->W.cell? (Ad xb 4)=some (.i s.wait)):=by rw[hP];intro W hW;rw[<-hq3.1];exact hW.dI.2.1
 have Gx:Hid (∀W,P s3 (n+5) W->en=0->hb=true->g≠aim->ST.size≤1000->Rc 137 #[.p xb,.i i,.agg #[.u 68,.i 0,.i 0,.t ST,.i 0],.i s.wait] W (.agg #[.i i,.t (AV s3 i ST)]) λw'=>PO ⟨B,xb,pb,b,RB,ra,rc⟩ w0 F0 (bZ O s2 i g aim).2 (n+6) (.slice (some (Ad w'.heap.size 0)) 1 1) (bZ O s2 i g aim).1 (w'.alloc (.cells #[.i i,.t (AV s3 i ST)] 186))):=by rw[hP];intro W hW e1 e2 e3 e4;have jM:=(ho.at hi).1;have hwt:=ho.wait;have h9:=hW.post hi3 ST e4 (by rw[show(s3.pr i).num=(s.pr i).num from congrArg Prod.fst (hq3.2.2.2 i)];exact jM) (by rw[hq3.1];omega) (by rw[hq3.2.1];exact ho.time);rw[hq3.1]at h9;refine h9.mono ?_;rintro e w' ⟨he,k'⟩;refine⟨he,?_⟩;unfold bZ jX;rw[if_neg e3,hen,if_pos e1,VJ,e2,if_pos rfl,hs3,hST,hq2.2.1.trans hq3.2.1.symm,hq2.1];exact(k'.up (by omega)).OY _ _
 obtain⟨PR,kY⟩:∃PR:Value->World->Prop,PR=λv W=>PO ⟨B,xb,pb,b,RB,ra,rc⟩ w0 F0 (bZ O s2 i g aim).2 (n+6) v (bZ O s2 i g aim).1 W:=⟨_,rfl⟩;have HEq:Hid (∀W,P s2 (n+3) W->g=aim->PR (.slice none 0 0) (W.setCell (Ad pb (i*7+4)) (.u 0))):=by rw[kY];exact HEq
 have TT:Hid (∀W,P s2 (n+4) W->en≠0->g≠aim->Rc 142 #[.p xb,.pointer (some (Ad pb (i*7)))] W (.tuple #[]) λw'=>PR (.slice none 0 0) w'):=by rw[kY];exact TT
 have TV:Hid (∀W,P s3 (n+5) W->en=0->hb=false->g≠aim->Rc 142 #[.p xb,.pointer (some (Ad pb (i*7)))] W (.tuple #[]) λw'=>PR (.slice none 0 0) w'):=by rw[kY];exact TV
 obtain⟨T,hT⟩:=eX (AV s3 i ST);have Gx:Hid (∀W,P s3 (n+5) W->en=0->hb=true->g≠aim->ST.size≤1000->Rc 137 #[.p xb,.i i,.agg #[.u 68,.i 0,.i 0,.t ST,.i 0],.i s.wait] W (.agg #[.i i,.t T]) λw'=>PR (.slice (some (Ad w'.heap.size 0)) 1 1) (w'.alloc (.cells #[.i i,.t T] 186))):=by rw[kY,<-hT];exact Gx
 show Cl 95 _ w λe w'=>∃v,e=.returned v∧(λv W=>PO ⟨B,xb,pb,b,RB,ra,rc⟩ w0 F0 (bZ O s2 i g aim).2 (n+6) v (bZ O s2 i g aim).1 W) v w';rw[<-kY];obtain⟨ha,TK⟩:=eX (oV s.r g);rw[TK]at Ig FC JJ;obtain⟨sw,hsw⟩:=eX s.wait;rw[hsw]at TI Gx;have him:(i:Int)<(m:Int):=by omega
 have hi0:(0:Int)≤(i:Int):=by omega
 clear h ho hi hP hm hs1 hs2 AY hq1 hq2 hi1 hi2 ef hz1 hz2 ha2 hnw hok hST hen VJ hs3 hq3 hi3 kY hT TK hsw hO;go_enter Tryz.func95,Tryz.ntmps95;go_upto_if 19 with(go_at_call 140;refine(Ig.o _ (by first|exact H0.o|exact HF.o _ _ _ _ H0.o (Fr.refl [] w).drew)).mono ?_;rintro e wa ⟨rfl,ka⟩;have Ha:=Hd ka;clear ka);go_cut [] from 11 (λwx=>Hid (P s1 (n+2) wx))
 case first=>
  cases ha with
  |true=>
   go_wp2_with (go_at_call 96;refine(FC.o _ (by first|exact Ha.o|exact HF.o _ _ _ _ Ha.o (Fr.refl [] wa).drew) (by first|rfl|trivial)).mono ?_;rintro e wb ⟨rfl,kb⟩;have Hb:=Hd kb;clear kb);go_meet;exact Hb
  |false=>
   go_wp2;go_meet;exact JJ.o _ Ha.o (by first|rfl|trivial)
 case rest=>
 have H1:=Hd hcut;obtain⟨w1,hw1⟩:=eY wc;subst hw1;clear hcut Ha H0 hc7;have d1:=zN.o _ H1.o;go_upto_if 29 with fail;go_cut [] from 11 (λwx=>Hid (P s2 (n+3) wx))
 case first=>
  by_cases e:g=z1
  .have q:(g==z1)=true:=by simpa using e
   have E:=Hd e;clear e;go_wp2_with (go_at_call 97;refine(OU.o _ (by first|exact H1.o|exact HF.o _ _ _ _ H1.o (Fr.refl [] w1).drew) E.o).mono ?_;rintro e wb ⟨rfl,kb⟩;have Hb:=Hd kb;clear kb);go_meet;exact Hb
  have q:(g==z1)=false:=by simpa using e
  have E:=Hd e;clear e;go_wp2;go_meet;exact TG.o _ H1.o E.o
 case rest=>
 have H2:=Hd hcut;obtain⟨w2,hw2⟩:=eY wc;subst hw2;clear hcut H1 d1;obtain⟨c0,d1,d4,y4⟩:=yE.o _ H2.o;go_upto_if 38 with fail;go_cut [8] from 11 (λv wx=>v=.i aim∧Hid (P s2 (n+3) wx))
 case first=>
  by_cases e:z2=0
  .have q:(z2==0)=true:=by simpa using e
   rw[if_pos e]at jk;have E:=Hd jk;clear e jk;go_wp2_with (go_at_call 88;refine(jN.o _ (by first|exact H2.o|exact HF.o _ _ _ _ H2.o (Fr.refl [] w2).drew)).mono ?_;rintro e wb ⟨rfl,kb⟩;have Hb:=Hd kb;clear kb);go_meet;exact⟨by rw[E.o],Hb⟩
  have q:(z2==0)=false:=by simpa using e
  rw[if_neg e]at jk;have E:=Hd jk;clear e jk;go_wp2;go_meet;exact⟨by rw[E.o],H2⟩
 case rest=>
 obtain⟨rfl,H3⟩:=hcut;obtain⟨w3,hw3⟩:=eY wc;subst hw3;clear H2 c0 d1 d4 y4 jk;obtain⟨c0,d1,d4,y4⟩:=yE.o _ H3.o;by_cases ea:g=aim
 .have q:(g==aim)=true:=by simpa using ea
  have K:=HEq.o _ H3.o ea;clear ea;go_wp2;go_ret;exact⟨_,rfl,K⟩
 have q:(g==aim)=false:=by simpa using ea
 by_cases e0:en=0
 .have q0:(en != 0)=false:=by simpa using e0
  have Gx:=Hd λe W h1 h2=>Gx.o W h1 e0 e ea h2;have TV:=Hd λe W h1=>TV.o W h1 e0 e ea;clear e0 ea;cases hb with
  |true=>
   go_wp2_with (first
    |(go_at_call 137;refine(Gx.o (by first|rfl|trivial) _ (by first|exact H5.o|exact HF.o _ _ _ _ H5.o (Fr.refl [] w5).drew) hsz).mono ?_;rintro e w6 ⟨rfl,k6⟩;have H6:=Hd k6;clear k6)
    |(go_at_call 141;refine(OW.o _ (by first|exact H4.o|exact HF.o _ _ _ _ H4.o (Fr.refl [] w4).drew)).mono ?_;rintro e w5 ⟨rfl,k5⟩;have H5:=Hd k5;clear k5;have c4:=TI.o _ H5.o)
    |(go_at_call 30;refine(TH.o _ (by first|exact H3.o|exact HF.o _ _ _ _ H3.o (Fr.refl [] w3).drew)).mono ?_;rintro e w4 ⟨rfl,k4,hsz⟩;have H4:=Hd k4;clear k4))
   go_ret;exact⟨_,rfl,H6.o⟩
  |false=>
   go_wp2_with (first
    |(go_at_call 142;refine(TV.o (by first|rfl|trivial) _ (by first|exact H5.o|exact HF.o _ _ _ _ H5.o (Fr.refl [] w5).drew)).mono ?_;rintro e w6 ⟨rfl,k6⟩;have H6:=Hd k6;clear k6)
    |(go_at_call 141;refine(OW.o _ (by first|exact H4.o|exact HF.o _ _ _ _ H4.o (Fr.refl [] w4).drew)).mono ?_;rintro e w5 ⟨rfl,k5⟩;have H5:=Hd k5;clear k5;have c4:=TI.o _ H5.o)
    |(go_at_call 30;refine(TH.o _ (by first|exact H3.o|exact HF.o _ _ _ _ H3.o (Fr.refl [] w3).drew)).mono ?_;rintro e w4 ⟨rfl,k4,hsz⟩;have H4:=Hd k4;clear k4))
   go_ret;exact⟨_,rfl,H6.o⟩
 have q0:(en != 0)=true:=by simpa using e0
 have TT:=Hd λW h1=>TT.o W h1 e0 ea;clear e0 ea;go_wp2_with (first
  |(go_at_call 142;refine(TT.o _ (by first|exact H4.o|exact HF.o _ _ _ _ H4.o (Fr.refl [] w4).drew)).mono ?_;rintro e w6 ⟨rfl,k6⟩;have H6:=Hd k6;clear k6)
  |(go_at_call 30;refine(TH.o _ (by first|exact H3.o|exact HF.o _ _ _ _ H3.o (Fr.refl [] w3).drew)).mono ?_;rintro e w4 ⟨rfl,k4,hsz⟩;have H4:=Hd k4;clear k4))
 go_ret;exact⟨_,rfl,H6.o⟩
end
end Go.Proofs.YtjceeemlilnplaaGreatDoor
