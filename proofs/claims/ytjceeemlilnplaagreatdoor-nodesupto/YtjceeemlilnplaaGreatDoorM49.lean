import Derived.Test.YtjceeemlilnplaaGreatDoorM47
import Derived.Test.YtjceeemlilnplaaGreatDoorM45
import Derived.Test.YtjceeemlilnplaaGreatDoorM48
set_option maxRecDepth 100000
set_option maxHeartbeats 12800000
set_option linter.all false
namespace Go.Proofs.YtjceeemlilnplaaGreatDoor
open Go.RowKit Go.Maps Go.MuLone
section
variable {L:Ly}{A C A' C':Nt}{n n' m c d:Nat}{X X':Nat->Option Row}{w0 W W' w:World}{V V':Lw}{O:gq}{i j:Nat}{v:Value}{K:Int}{tn pe:Int}{tx:cC}{x:Rp}
theorem NW.GD(h:NW L A C n X V w0 W):∃wa wl wc,(V.E.x5=.slice wa wl wc∧V.Y.length=wl)∧W.cell? (Ad L.nb 8)=some (.slice wa wl wc)∧W.frozen? (Ad L.nb 8)=false∧(L.nb<W.heap.size∧w0.heap.size≤W.heap.size∧(Value.slice wa wl wc).ownBlock≠some L.nb)∧W.ownsRow w0.heap.size 79 3 (.slice wa wl wc) wl (fO V.Y)∧∀(y:Int×Int×cC)w9 g9 c9,Fr (Value.slice wa wl wc).ownBlock.toList W w9->w9.ownsRow w0.heap.size 79 3 (.slice (some (Ad g9 0)) (wl+1) c9) (wl+1) (fO V.Y++[.i y.1,.i y.2.1,.t y.2.2])->((Value.slice wa wl wc).ownBlock=some g9∨W.heap.size≤g9)->NW L A C n X {V with E:={V.E with x5:=.slice (some (Ad g9 0)) (wl+1) c9},Y:=V.Y++[y]} w0 (w9.setCell (Ad L.nb 8) (.slice (some (Ad g9 0)) (wl+1) c9)):=by
 have hw:=h.lm.wo;obtain⟨wa,wc,hv⟩:=ah hw;have hc:=h.cells;have hne:V.E.x5.ownBlock≠some L.nb:=λe=>by obtain⟨_,cur,h4⟩:=av hw e;rw[h.lm.wm.blk]at h4;simp at h4
 rw[hv]at hne hw;refine⟨wa,_,wc,⟨hv,rfl⟩,by rw[<-hv];exact hc.1.2.2.2.2.2.2,hc.2.2.1,⟨hc.2.2.2.1,hc.2.2.2.2,hne⟩,hw,λy w9 g9 c9 f ho hl=>?_⟩;refine(h.Od (Y':=V.Y++[y]) (v':=.slice (some (Ad g9 0)) (V.Y.length+1) c9) (by rw[hv];exact f) ?_ λk hk=>?_).1
 .have e2:∀a b,fO (a++[b])=fO a++[.i b.1,.i b.2.1,.t b.2.2]:=λa b=>by simp[fO]
  rw[dE,e2];exact ho
 have e:g9=k:=by simpa[Value.ownBlock]using hk
 rw[hv,<-e];exact hl
theorem Ea(hO:bE O)(h:NW L A A n fH V w0 W)(hA:eB m K A)(hn:n+300≤1000000000)(hm:L.m≤3)(hc:c≤1000000)(hV:tQ m c d V)(hd:d+3≤130)(hsz:tx.size≤2000000)(hj:i<L.m):Rc 18 #[.p L.nb,.agg #[.i ((i:Int)+1),.i pe,.t tx]] W (.bool true) λw'=>MJ L (n+100) m c (d+3) (K+1) w0 w':=by
 obtain⟨i0,hi,hz0,hz1,hz2⟩:=info_parts Ao;obtain⟨tn,htn⟩:∃tn:Int,(i:Int)+1=tn:=⟨_,rfl⟩;rw[htn];obtain⟨o,ho⟩:=eY (some (eO W.heap.size 79 [.i tn,.i pe,.t tx]));obtain⟨W1,hW1⟩:=eX (W.alloc (.cells #[.i tn,.i pe,.t tx] 79));obtain⟨ob,jT⟩:=eX W.heap.size;obtain⟨wb,hwb⟩:=eX L.nb;obtain⟨xb,hxb⟩:=eX (L.p (i+1)).xb;obtain⟨rb,hrb⟩:=eX (L.r (i+1)).xb;obtain⟨x',hx'⟩:=eX (gU O (A.k (i+1)) tx).2;obtain⟨T2,ug⟩:=eX (gU O (A.k (i+1)) tx).1;obtain⟨hrs,hla,hsz2⟩:=KA (O:=O) (x:=A.k (i+1)) (tx:=tx);rw[hx']at hrs hla;rw[ug]at hsz2;have hxo:pX x':=⟨by rw[hla];exact(hA.k (i+1)).last,by rw[hrs];exact(hA.k (i+1)).rs⟩;obtain⟨X5,Ap⟩:=eX (aO fH 5 o);have hX:X5 5=some (eO W.heap.size 79 [.i tn,.i pe,.t tx]):=by rw[<-Ap,<-ho];exact if_pos rfl
 obtain⟨P0,jA⟩:∃P:World->Prop,P=λW=>NW L A A n X5 V w0 W:=⟨_,rfl⟩;obtain⟨P1,hP1⟩:∃P:World->Prop,P=λW=>NW L (A.fQ (i+1) x') A (n+25) X5 V w0 W:=⟨_,rfl⟩;obtain⟨P2,hP2⟩:∃P:World->Prop,P=λW=>NW L (A.fQ (i+1) x') (A.fQ (i+1) x') (n+50) X5 V w0 W:=⟨_,rfl⟩;obtain⟨Q,hQ⟩:∃P:World->Prop,P=λW=>MJ L (n+100) m c (d+3) (K+1) w0 W:=⟨_,rfl⟩;have h1:NW L A A n X5 V w0 W1:=by rw[<-hW1,<-Ap,ho];exact h.alloc 5 79 _
 have H0:Hid (P0 W1):=by rw[jA];exact h1
 have HF:Hid ((∀W W',P0 W->Fr [] W W'->P0 W')∧(∀W W',P1 W->Fr [] W W'->P1 W')∧∀W W',P2 W->Fr [] W W'->P2 W'):=by rw[jA,hP1,hP2];exact⟨λW W' h f=>h.same f,λW W' h f=>h.same f,λW W' h f=>h.same f⟩
 obtain⟨xg,xc,yg,yc,⟨hxc,Oc⟩,hx3,hx4,hcs⟩:=h1.SB (by omega);obtain⟨M,hM⟩:=eX L.m;rw[hM]at hx3 hx4 hxc Oc;have HC:Hid ((∀W,P0 W->W.cell? (Ad ob 0)=some (.i tn)∧W.cell? (Ad ob 2)=some (.t tx)∧W.cell? (Ad wb 6)=some (.slice (some (Ad xg 0)) M xc)∧W.cell? (Ad xg i)=some (.p xb))∧(∀W,P1 W->W.cell? (Ad ob 2)=some (.t tx)∧(W.cell? (Ad wb 7)=some (.slice (some (Ad yg 0)) M yc)∧W.cell? (Ad yg i)=some (.p rb))∧W.cell? (Ad wb 6)=some (.slice (some (Ad xg 0)) M xc)∧W.cell? (Ad xg i)=some (.p xb))∧∀W,P2 W->W.cell? (Ad ob 1)=some (.i pe)∧W.cell? (Ad ob 2)=some (.t tx)∧W.cell? (Ad wb 7)=some (.slice (some (Ad yg 0)) M yc)∧W.cell? (Ad yg i)=some (.p rb)):=by
  rw[jA,hP1,hP2,<-hwb,<-hxb,<-hrb,<-jT];refine⟨λW hW=>?_,λW hW=>?_,λW hW=>?_⟩
  .have h8:=hW.cells.1;rw[hx3,hx4]at h8;exact⟨hW.cell hX 0 (by simp),hW.cell hX 2 (by simp),h8.2.2.2.2.1,(hcs _ _ _ _ _ hW i hj).1⟩
  .have h8:=hW.cells.1;rw[hx3,hx4]at h8;exact⟨hW.cell hX 2 (by simp),⟨h8.2.2.2.2.2.1,(hcs _ _ _ _ _ hW i hj).2⟩,h8.2.2.2.2.1,(hcs _ _ _ _ _ hW i hj).1⟩
  have h8:=hW.cells.1;rw[hx3,hx4]at h8;exact⟨hW.cell hX 1 (by simp),hW.cell hX 2 (by simp),h8.2.2.2.2.2.1,(hcs _ _ _ _ _ hW i hj).2⟩
 have H47:Hid (∀W,P0 W->Rc 47 #[.p xb,.t tx] W (.t T2) λw'=>P1 w'):=by rw[jA,hP1,<-hxb];intro W hW;refine hW.WC (j:=i+1) (by omega) (by omega) hrs λF hF=>?_;have h9:=KG.take hO hF (hA.k (i+1)) tx hsz (by omega);rw[hx',ug]at h9;exact h9
 have H48:Hid (∀W,P1 W->Rc 48 #[.p rb,.t tx] W (.t T2) λw'=>P2 w'):=by rw[hP1,hP2,<-hrb];intro W hW;refine hW.WE (j:=i+1) (by omega) (by omega) hrs λF hF=>?_;have h9:=KH.take hO hF (hA.k (i+1)) tx hsz (by omega);rw[hx',ug]at h9;exact h9
 have hA':eB m (K+1) (A.fQ (i+1) x'):=(hA.fQ hxo).le (by omega);have HQ:Hid (∀W,P2 W->Q W):=by
  rw[hP2,hQ]
  exactλW hW=>⟨_,V,hW.clear.up (by omega),hA',hV.le (by omega)⟩
 obtain⟨BB,qA⟩:=eX w0.heap.size;have HA:Hid (∀W,P2 W->∃wa wl wc cs,wl≤200000000∧W.cell? (Ad wb 8)=some (.slice wa wl wc)∧W.frozen? (Ad wb 8)=false∧(wb<W.heap.size∧BB≤W.heap.size∧(Value.slice wa wl wc).ownBlock≠some wb)∧W.ownsRow BB 79 3 (.slice wa wl wc) wl cs∧∀w9 g9 c9,Fr (Value.slice wa wl wc).ownBlock.toList W w9->w9.ownsRow BB 79 3 (.slice (some (Ad g9 0)) (wl+1) c9) (wl+1) (cs++[.i 0,.i pe,.t T2])->((Value.slice wa wl wc).ownBlock=some g9∨W.heap.size≤g9)->Q (w9.setCell (Ad wb 8) (.slice (some (Ad g9 0)) (wl+1) c9))):=by rw[hP2,hQ,<-hwb,<-qA];intro W hW;obtain⟨wa,wl,wc,⟨_,hwl⟩,e1,e2,e3,e4,e5⟩:=hW.GD;refine⟨wa,wl,wc,_,by have:=hV.2;omega,e1,e2,e3,e4,λw9 g9 c9 f SF hl=>?_⟩;have h9:=e5 (0,pe,T2) w9 g9 c9 f SF hl;exact⟨_,_,h9.clear.up (by omega),hA',hV.GD ⟨⟨by show(0:Int)≤0;omega,by show(0:Int)≤_;omega⟩,by show T2.size≤_;omega⟩ hd _⟩
 rw[hwb]
 suffices h9:Rc 18 #[.p wb,.agg #[.i tn,.i pe,.t tx]] W (.bool true) λw'=>Q w' from h9.mono λe w' h=>⟨h.1,by have h2:=h.2;rw[hQ]at h2;exact h2⟩
 obtain⟨k0,k2,k6,kx⟩:=HC.o.1 W1 H0.o;have t0:(tn==0)=false:=by simp;omega
 have t1:IntKind.i64.wrap (tn-1)=(i:Int):=by rw[show tn-1=(i:Int) by omega];exact aD ⟨by omega,by omega⟩
 have i0':(0:Int)≤(i:Int):=by omega
 have i1:(i:Int)<(M:Int):=by omega
 clear h h1 hA hV jA hP1 hP2 hQ ho hwb hxb hrb hx' ug hrs hla hxo Ap hX hcs hx3 hx4 hM hA' qA htn hm;go_enter Tryz.func18,Tryz.ntmps18;go_wp2;clear hW1 jT;go_region_held3 (λw'=>w'.cell? ⟨ob,2,none⟩=some (.string tx)∧w'.cell? ⟨wb,6,none⟩=some (.slice (some ⟨xg,0,none⟩) M xc)∧w'.cell? ⟨xg,i,none⟩=some (.pointer (some ⟨xb,0,none⟩)))
  (first
    |exact⟨y2,y6,yx⟩
    |exact⟨k2,k6,kx⟩
    |go_keep)
  (first
    |(go_at_call 47;refine(H47.o _ (by first|exact H0.o|exact HF.o.1 _ _ H0.o fR.drew|exact HF.o.1 _ _ H0.o (fR.drewN _))).mono ?_;rintro e w5 ⟨rfl,q5⟩;have S5:=Hd q5;obtain⟨y2,⟨y7,yy⟩,y6,yx⟩:=HC.o.2.1 _ q5;clear q5))
 all_goals
  go_wp2;go_region_held3 (λw'=>w'.cell? ⟨ob,2,none⟩=some (.string tx)∧w'.cell? ⟨wb,7,none⟩=some (.slice (some ⟨yg,0,none⟩) M yc)∧w'.cell? ⟨yg,i,none⟩=some (.pointer (some ⟨rb,0,none⟩)))
   (first
     |exact⟨z2,z7,zz⟩
     |exact⟨y2,y7,yy⟩
     |go_keep)
   (first
     |(go_at_call 48;refine(H48.o _ (by first|exact S5.o|exact HF.o.2.1 _ _ S5.o fR.drew|exact HF.o.2.1 _ _ S5.o (fR.drewN _))).mono ?_;rintro e w6 ⟨rfl,q6⟩;have S6:=Hd q6;obtain⟨z1,z2,z7,zz⟩:=HC.o.2.2 _ q6;clear q6))
  all_goals
   obtain⟨wa,wl,wc,cs,hwl,x8,z8,⟨SG,hBw,hne⟩,hown,hst⟩:=HA.o w6 S6.o;have Gu:=Hd hown;have xC:=Hd hne;have HST:=Hd hst;clear hown hne hst;go_wp2;all_goals try(go_ret;exact⟨rfl,HQ.o _ S6.o⟩)
   go_region_law
    ((refine step_append_lies _ (by rfl) _ _ _ (by rfl) BB 79 i0 _ 3 32 Tryz.underlying45 hi hz0 hz1 hz2 rfl (by omega) (.slice wa wl wc) wl cs (by rfl) ((Gu.o.alloc _).drew) (Ad w6.heap.size 0) 1 1 [.i 0,.i pe,.t T2] (by rfl) (by rfl) (World.news_of_block (cs:=#[.i 0,.i pe,.t T2]) (t:=79) (fr:=(0,0)) (di w6 _)) (by simp[Value.oneCell']) (by omega) (by unfold maxLen;omega) (by omega) (by simp;omega) (w6.heap.size+1) (by simp) ?_;intro wg bX w9 aH hgrow hat oK;have f9:w9.frozen? (Ad wb 8)=false:=(hgrow.frozen_far (Ad wb 8) (by simp;omega) (Ne.symm xC.o)).trans (dW SG z8);have c9:=(hgrow.cell_far (Ad wb 8) (by simp;omega) (Ne.symm xC.o)).trans ((du (ei w6 _ wb SG)).trans x8)))
   all_goals
    have F9:Fr (Value.slice wa wl wc).ownBlock.toList w6 w9:=((fR.alloc _).drew).grown hgrow (λk hk=>Or.inl (by simp[hk]));have H9:=Hd (HST.o w9 wg bX F9 aH (hat.imp_right λh=>by omega));clear aH hgrow hat oK f9 c9 F9;go_wp2;go_ret;exact⟨rfl,H9.o⟩
end
def QD(x:Int×Int×cC):List Value:=[.i x.1,.i x.2.1,.t x.2.2]
theorem yC:∀(l:List (Int×Int×cC))(i:Nat),(fO l).take (i*3)=fO (l.take i)
 |[],i=>by simp[fO]
 |x::r,0=>by simp[fO]
 |x::r,i+1=>by have ih:=yC r i;have e:∀x l,fO (x::l)=QD x++fO l:=λ_ _=>rfl;rw[List.take_succ_cons,e,e,List.take_append,show(i+1)*3-(QD x).length=i*3 from by show(i+1)*3-3=_;omega,ih,eL (by show 3≤_;omega)]
theorem yD:∀(l:List (Int×Int×cC))(i:Nat),(fO l).drop (i*3)=fO (l.drop i)
 |[],i=>by simp[fO]
 |x::r,0=>by simp[fO]
 |x::r,i+1=>by have ih:=yD r i;have e:∀x l,fO (x::l)=QD x++fO l:=λ_ _=>rfl;rw[List.drop_succ_cons,e,List.drop_append,show(i+1)*3-(QD x).length=i*3 from by show(i+1)*3-3=_;omega,ih,jt (by show 3≤_;omega)];rfl
theorem vS(l:List (Int×Int×cC)):(fO l).length=l.length*3:=by
 induction l with
 |nil=>rfl
 |cons x l ih=>
  have e:fO (x::l)=QD x++fO l:=rfl;rw[e,dE,ih];show 3+_=(l.length+1)*3;omega
theorem KL(l:List (Int×Int×cC))(i:Nat)(h:i<l.length):(fO l)[i*3]?=some (.i l[i].1)∧(fO l)[i*3+1]?=some (.i l[i].2.1)∧(fO l)[i*3+2]?=some (.t l[i].2.2):=by have hf:∀x:Int×Int×cC,(QD x).length=3:=λ_=>rfl;exact⟨flat_get hf l i h 0 (by omega),flat_get hf l i h 1 (by omega),flat_get hf l i h 2 (by omega)⟩
theorem mH(l:List (Int×Int×cC)):∀u∈fO l,u.oneCell'=true:=by intro u hu;simp only[fO,List.mem_flatMap]at hu;obtain⟨m,_,hm⟩:=hu;simp at hm;rcases hm with rfl|rfl|rfl<;>rfl
theorem vT{W:World}{B wg wl wc:Nat}{Y:List (Int×Int×cC)}(h:W.ownsRow B 79 3 (.slice (some (Ad wg 0)) wl wc) wl (fO Y))(i j:Nat)(hj:i+j≤wl):∀k u,(fO ((Y.drop i).take j))[k]?=some u->W.cell? (((Ad wg (i*3)):Addr).add k)=some u:=by
 intro k u hu;have hk:k<j*3:=by have:=(df.1 hu).1;rw[vS,eM,gj]at this;omega
 have e8:((Ad wg (i*3)):Addr).add k=(Ad wg (i*3+k)):=by
  unfold Addr.add;split
  .rename_i e;rw[e];rfl
  rfl
 rw[e8,h.cellAt (i*3+k) (by omega),<-hu,<-yC,List.getElem?_take,if_pos hk,<-yD,List.getElem?_drop]
theorem nR{W:World}{B BB p wl:Nat}{v:Value}{A C Y1:List (Int×Int×cC)}(h:W.ownsRow B 79 3 v (p+(wl-(p+1))) (fO A++fO C))(hB:BB≤B)(hp:p+1≤wl)(e:A++C=Y1):W.ownsRow BB 79 3 v (wl-1) (fO Y1):=by rw[show p+(wl-(p+1))=wl-1 by omega]at h;rw[<-e,show fO (A++C)=fO A++fO C by simp[fO]];exact dD h hB
section
variable {L:Ly}{A C A' C':Nt}{n n' m c d:Nat}{X X':Nat->Option Row}{w0 W W' w:World}{V V':Lw}{O:gq}{i j:Nat}{v:Value}{K:Int}{tn pe:Int}{tx:cC}{kd at' a b:Int}{t:cC}{l:Value}
theorem oU(hO:bE O)(h:NW L A A n fH V w0 W)(hA:eB m K A)(hn:n+300≤1000000000)(hK:K+100≤4000000000)(hm:L.m=m)(hc:c≤1000000)(hV:tQ m c d V)(hd:d+3≤130)(hsz:tx.size≤2000000)(ht:0≤tn∧tn≤m):Rc 18 #[.p L.nb,.agg #[.i tn,.i pe,.t tx]] W (.bool true) λw'=>MJ L (n+100) m c (d+3) (K+1) w0 w':=by
 by_cases h0:tn=0
 .rw[h0];exact D8 hO h hA hn hK hc hV hd hsz
 obtain⟨i,hi⟩:∃i:Nat,tn=(i:Int)+1:=⟨(tn-1).toNat,by omega⟩;have hps:=hA.s.ps;rw[hA.pl]at hps;rw[hi];exact Ea hO h hA hn (by omega) hc hV hd hsz (by omega)
theorem tQ.erase(h:tQ m c d V)(k:Nat)(x5:Value):tQ m c d {V with E:={V.E with x5:=x5},Y:=V.Y.eraseIdx k}:=by have hs:=(List.eraseIdx_sublist V.Y k);have hl:=hs.length_le;have h2:=h.2;have h3:=h.1.yl;exact⟨⟨h.1.k4,h.1.kl,h.1.k16,λy hy=>h.1.y y (hs.subset hy),by show(V.Y.eraseIdx k).length≤_;omega,h.1.t,h.1.tl⟩,by show(V.Y.eraseIdx k).length≤_;omega⟩
theorem Ec(hO:bE O)(h:NW L A A n fH V w0 W)(hA:eB m K A)(hn:n+300≤1000000000)(hK:K+100≤4000000000)(hm:L.m=m)(hc:c≤1000000)(hV:tQ m c d V)(hd:d+3≤130)(hk:kd=17∨kd=19)(ha:In64 a)(hb:In64 b):Rc 17 #[.p L.nb,.agg (opC kd at' a b t l).toArray] W (.bool true) λw'=>MJ L (n+100) m c (d+3) (K+1) w0 w':=by
 obtain⟨i0,hi,hz0,hz1,hz2⟩:=info_parts Ao;obtain⟨o,ho⟩:=eY (some (eO W.heap.size 32 (opC kd at' a b t l)));obtain⟨W1,hW1⟩:=eX (W.alloc (.cells (opC kd at' a b t l).toArray 32));obtain⟨ob,jT⟩:=eX W.heap.size;obtain⟨wb,hwb⟩:=eX L.nb;obtain⟨BB,qA⟩:=eX w0.heap.size;obtain⟨wl,hwl⟩:=eX V.Y.length;have aan:wl≤200000000:=by have:=hV.2;omega
 obtain⟨wa,wc,hwv⟩:=ah h.lm.wo;rw[hwl]at hwv;obtain⟨Q,hQ⟩:∃P:World->Prop,P=λW=>MJ L (n+100) m c (d+3) (K+1) w0 W:=⟨_,rfl⟩;obtain⟨P0,jA⟩:∃P:World->Prop,P=λW=>∃X,X 5=o∧NW L A A n X V w0 W:=⟨_,rfl⟩;have H0:Hid (P0 W1):=by rw[jA,<-hW1];exact⟨aO fH 5 o,if_pos rfl,by rw[ho];exact h.alloc 5 32 _⟩
 have p8:Hid (∀W W',P0 W->Fr [] W W'->P0 W'):=by rw[jA];rintro W W' ⟨X,h1,h2⟩ f;exact⟨X,h1,h2.same f⟩
 have SQ:Hid (∀W,P0 W->W.cell? (Ad ob 2)=some (.i a)∧W.cell? (Ad ob 0)=some (.i kd)∧W.cell? (Ad ob 3)=some (.i b)∧W.cell? (Ad wb 8)=some (.slice wa wl wc)):=by rw[jA,<-hwb,<-jT];rintro W ⟨X,h1,h2⟩;rw[ho]at h1;exact⟨h2.cell h1 2 (by simp[opC]),h2.cell h1 0 (by simp[opC]),h2.cell h1 3 (by simp[opC]),by rw[<-hwv];exact h2.cells.1.2.2.2.2.2.2⟩
 have QE:Hid (∀W,P0 W->Q W):=by rw[jA,hQ];rintro W ⟨X,h1,h2⟩;exact⟨A,V,h2.clear.up (by omega),hA.le (by omega),hV.le (by omega)⟩
 obtain⟨k2,k0,k3,k8⟩:=SQ.o W1 H0.o;rw[hwb]
 suffices h9:Rc 17 #[.p wb,.agg (opC kd at' a b t l).toArray] W (.bool true) λw'=>Q w' from h9.mono λe w' h=>⟨h.1,by have h2:=h.2;rw[hQ]at h2;exact h2⟩
 have SS:W1.heap.size=ob+1:=by rw[<-hW1,<-jT];simp
 unfold opC at hW1⊢;by_cases hw0:wl=0
 .subst hw0;clear h hA hV jA hQ ho hwb qA hwl hwv hk;go_enter Tryz.func17,Tryz.ntmps17;go_wp2;go_ret;exact⟨rfl,QE.o _ (by first|exact H0.o|exact p8.o _ _ H0.o fR.drew)⟩
 have hpk:=eP a wl (by omega);obtain⟨p,hp⟩:∃p:Nat,pk a wl=(p:Int):=⟨(pk a wl).toNat,by omega⟩;rw[hp]at hpk;have hpl:p<V.Y.length:=by omega
 obtain⟨⟨tn,pe,tx⟩,hy⟩:∃y,V.Y[p]=y:=⟨_,rfl⟩;have MR:=hV.1.y V.Y[p] (eE _);rw[hy]at MR;have MR:(0≤tn∧tn≤m)∧tx.size≤2000000:=MR;obtain⟨wg,hwg,hcap,_⟩:=aB (by have h9:=h.lm.wo;rw[hwv,hwl]at h9;exact h9) (by omega);subst hwg;obtain⟨Y1,SV⟩:=eX (V.Y.eraseIdx p);obtain⟨P1,hP1⟩:∃P:World->Prop,P=λW=>∃X,(X 5=o∧X 7=some (eO (ob+1) 79 [.i tn,.i pe,.t tx]))∧NW L A A n X V w0 W:=⟨_,rfl⟩;obtain⟨P2,hP2⟩:∃P:World->Prop,P=λW=>∃X x5,(X 5=o∧X 7=some (eO (ob+1) 79 [.i tn,.i pe,.t tx]))∧NW L A A n X {V with E:={V.E with x5:=x5},Y:=Y1} w0 W:=⟨_,rfl⟩;have HM:Hid (∀W,P0 W->W.heap.size=ob+1->P1 (W.alloc (.cells #[.i tn,.i pe,.t tx] 79))):=by rw[jA,hP1];rintro W ⟨X,h1,h2⟩ hs;have h9:=h2.alloc 7 79 [.i tn,.i pe,.t tx];rw[hs]at h9;exact⟨_,⟨by simp[aO,h1],if_pos rfl⟩,h9⟩
 have HY:Hid (∀W,P0 W->W.cell? (Ad wg (p*3))=some (.i tn)∧W.cell? (Ad wg (p*3+1))=some (.i pe)∧W.cell? (Ad wg (p*3+2))=some (.t tx)):=by
  rw[jA];rintro W ⟨X,h1,h2⟩;have h9:=h2.lm.wo;rw[hwv,hwl]at h9;obtain⟨g,e,_,hcc⟩:=aB h9 (by omega);have e:wg=g:=by simpa using e
  subst e;have hg:=KL V.Y p hpl;rw[hy]at hg;exact⟨(hcc _ (by omega)).trans hg.1,(hcc _ (by omega)).trans hg.2.1,(hcc _ (by omega)).trans hg.2.2⟩
 have HF:Hid ((∀W W',P1 W->Fr [] W W'->P1 W')∧∀W W',P2 W->Fr [] W W'->P2 W'):=by
  rw[hP1,hP2];refine⟨?_,?_⟩
  .rintro W W' ⟨X,h1,h2⟩ f;exact⟨X,h1,h2.same f⟩
  rintro W W' ⟨X,x5,h1,h2⟩ f;exact⟨X,x5,h1,h2.same f⟩
 have HC:Hid (∀W,P1 W∨P2 W->W.cell? (Ad ob 0)=some (.i kd)∧W.cell? (Ad ob 3)=some (.i b)∧W.cell? (Ad (ob+1) 0)=some (.i tn)∧W.cell? (Ad (ob+1) 1)=some (.i pe)∧W.cell? (Ad (ob+1) 2)=some (.t tx)):=by
  rw[hP1,hP2];rintro W (⟨X,⟨h1,h7⟩,h2⟩|⟨X,x5,⟨h1,h7⟩,h2⟩)
  .rw[ho,jT]at h1;exact⟨h2.cell h1 0 (by simp[opC]),h2.cell h1 3 (by simp[opC]),h2.cell h7 0 (by simp),h2.cell h7 1 (by simp),h2.cell h7 2 (by simp)⟩
  rw[ho,jT]at h1;exact⟨h2.cell h1 0 (by simp[opC]),h2.cell h1 3 (by simp[opC]),h2.cell h7 0 (by simp),h2.cell h7 1 (by simp),h2.cell h7 2 (by simp)⟩
 have HO:Hid (∀W,P1 W->W.ownsRow BB 79 3 (.slice (some (Ad wg 0)) wl wc) wl (fO V.Y)∧W.cell? (Ad wb 8)=some (.slice (some (Ad wg 0)) wl wc)∧W.frozen? (Ad wb 8)=false∧BB≤W.heap.size):=by rw[hP1,<-qA,<-hwb];rintro W ⟨X,h1,h2⟩;have h9:=h2.lm.wo;rw[hwv,hwl]at h9;have h8:=h2.cells;exact⟨h9,by rw[<-hwv];exact h8.1.2.2.2.2.2.2,h8.2.2.1,h8.2.2.2.2⟩
 have HD:Hid (∀W gV v,P1 W->Fr [] W gV->gV.ownsRow BB 79 3 v (wl-1) (fO Y1)->(∀k,v.ownBlock=some k->W.heap.size≤k)->P2 (gV.setCell (Ad wb 8) v)):=by
  rw[hP1,hP2,<-hwb,<-qA];rintro W gV v ⟨X,h1,h2⟩ f SF hv;have e9:Y1.length=wl-1:=by rw[<-SV,gx hpl,hwl]
  exact⟨X,v,h1,(h2.Od (Y':=Y1) (v':=v) (f.mono (by simp)) (by rw[e9];exact SF) λk hk=>Or.inr (hv k hk)).1⟩
 have JQ:Hid (∀W,P1 W∨P2 W->Rc 18 #[.p wb,.agg #[.i tn,.i pe,.t tx]] W (.bool true) λw'=>Q w'):=by
  rw[hP1,hP2,hQ,<-hwb];rintro W (⟨X,_,h2⟩|⟨X,x5,_,h2⟩)
  .exact oU hO h2.clear hA hn hK hm hc hV hd MR.2 MR.1
  refine oU hO h2.clear hA hn hK hm hc ?_ hd MR.2 MR.1;rw[<-SV];exact hV.erase p x5
 have Zm:Hid (∀W,P2 W->Q W):=by rw[hP2,hQ];rintro W ⟨X,x5,_,h2⟩;refine⟨A,_,h2.clear.up (by omega),hA.le (by omega),tQ.le ?_ (show d≤d+3 by omega)⟩;rw[<-SV];exact hV.erase p x5
 have HE:Hid (V.Y.take p++(V.Y.drop (p+1)).take (wl-(p+1))=Y1):=by show _=_;rw[<-SV,iu,eL (l:=V.Y.drop (p+1)) (by rw[gj,hwl];exact eh _)]
 have zL:Hid (∀W,Rc 10 #[.i a,.i wl] W (.i p) λw'=>w'=W):=λW=>by rw[<-hp];exact dh a wl W ha (by omega) (by omega)
 have WR:=eP b 2 (by omega);obtain⟨p2,hp2⟩:∃p:Nat,pk b 2=(p:Int):=⟨(pk b 2).toNat,by omega⟩;have Oi:Hid (∀W,Rc 10 #[.i b,.i 2] W (.i p2) λw'=>w'=W):=λW=>by rw[<-hp2];exact dh b 2 W hb (by omega) (by omega)
 have hl1:(fO (V.Y.take p)).length=p*3:=by rw[vS,eM];omega
 have hl2:(fO ((V.Y.drop (p+1)).take (wl-(p+1)))).length=(wl-(p+1))*3:=by rw[vS,eM,gj];omega
 obtain⟨y0,y1,y2⟩:=HY.o W1 H0.o;obtain⟨Y,Zn⟩:=eX V.Y;rw[Zn]at HO HE hl1 hl2;have hltz:(p:Int)<(wl:Int):=by omega
 have Wv:p<wl:=by omega
 have a0:(0:Int)≤(p:Int):=by omega
 have a1:(p:Int)+1≤(wl:Int):=by omega
 have hcap2:(wl:Int)≤(wc:Int):=by omega
 have wlz:((wl:Int)==0)=false:=by simp;omega
 have w1z:IntKind.i64.wrap ((p:Int)+1)=(p:Int)+1:=aD ⟨by omega,by omega⟩;clear h hA hV jA hP1 hP2 hQ ho hwb qA hwl hwv hpk hp hpl hy MR SV WR hp2 ha hb Zn QE hm SQ HY;obtain⟨W2,hW2⟩:=eX (W1.alloc (.cells #[.i tn,.i pe,.t tx] 79)).drew;have H2:Hid (P1 W2):=by rw[<-hW2];exact HF.o.1 _ _ (HM.o _ H0.o SS) fR.drew
 obtain⟨j0,j3,m0,m1,m2⟩:=HC.o W2 (Or.inl H2.o);obtain⟨hown,x8,z8,hBW⟩:=HO.o W2 H2.o;have KM:=Hd hown;have zM:Hid (∀k u,(fO (Y.take p))[k]?=some u->W2.cell? (((Ad wg 0):Addr).add k)=some u):=by have h8:=vT hown 0 p (by omega);rw[List.drop_zero]at h8;exact h8
 have hcase:(kd=17∧p2≠0)∨(kd=17∧p2=0)∨kd=19:=by
  rcases hk with e|e
  .by_cases h9:p2=0
   .exact Or.inr (Or.inl ⟨e,h9⟩)
   exact Or.inl ⟨e,h9⟩
  exact Or.inr (Or.inr e)
 have hd0:W1.drew.heap.size=ob+1:=by simpa using SS
 have yd0:cE W1.drew wg (p*3) tn:=y0;have yd1:cE W1.drew wg (p*3+1) pe:=y1;have yd2:cD W1.drew wg (p*3+2) (.t tx):=y2;have kd8:cD W1.drew wb 8 (.slice (some (Ad wg 0)) wl wc):=k8;have KN:=Hd λgV f=>HO.o gV (HF.o.1 _ _ H2.o f);clear hown HM p8 HO hk;rcases hcase with⟨rfl,hp2⟩|hcase
 .have q2:((p2:Int)==0)=false:=by simp;omega
  go_enter Tryz.func17,Tryz.ntmps17;go_wp2;clear hW1 jT;go_region_held3 (λw'=>w'.cell? ⟨ob,2,none⟩=some (.int .i64 a)∧w'.cell? ⟨wb,8,none⟩=some (.slice (some ⟨wg,0,none⟩) wl wc))
   (first
     |exact⟨k2,k8⟩
     |go_keep)
   (first
     |(go_at_call 10;refine(zL.o _).mono ?_;rintro e w' ⟨rfl,hw'⟩;have hw'':=hw'.symm;subst hw''))
  all_goals
   go_wp2_with (first
    |(go_at_call 18;refine(JQ.o _ (Or.inl (by first|exact H2.o|exact HF.o.1 _ _ H2.o fR.drew))).mono ?_;rintro e w8 ⟨rfl,q8⟩;have S8:=Hd q8;clear q8)
    |(go_at_call_of 10 (Value.int .i64 2);refine(Oi.o _).mono ?_;rintro e w' ⟨rfl,hw'⟩;have hw'':=hw'.symm;subst hw''))
   go_ret;exact⟨rfl,S8.o⟩
 have hws:p+1≤wl:=by omega
 by_cases hcc:wc=p+1
 .subst hcc;have Oj:wl=p+1:=by omega
  subst Oj;rcases hcase with⟨rfl,hp2⟩|rfl
  .subst hp2;go_enter Tryz.func17,Tryz.ntmps17;go_wp2;clear hW1 jT;go_region_held3 (λw'=>w'.cell? ⟨ob,2,none⟩=some (.int .i64 a)∧w'.cell? ⟨wb,8,none⟩=some (.slice (some ⟨wg,0,none⟩) (p+1) (p+1)))
    (first
      |exact⟨k2,k8⟩
      |go_keep)
    (first
      |(go_at_call 10;refine(zL.o _).mono ?_;rintro e w' ⟨rfl,hw'⟩;have hw'':=hw'.symm;subst hw''))
   all_goals
    go_wp2_with (first
     |(go_at_call 18;refine(JQ.o _ (Or.inr (by first|exact kW.o|exact HF.o.2 _ _ kW.o fR.drew))).mono ?_;rintro e w8 ⟨rfl,q8⟩;have S8:=Hd q8;clear q8)
     |(at_builtin;refine wpList_append_own _ rfl _ _ 45 rfl W2.heap.size 79 i0 _ 3 32 Tryz.underlying45 hi hz0 hz1 hz2 rfl (by omega) (.slice iM p iN) p (fO (Y.take p)) rfl H9.o.1 (Ad wg 0) 0 0 [] rfl rfl (λk u hu=>by simp at hu) (λu hu=>by simp at hu) (by unfold maxLen;omega) (by omega) (by have:=H9.o.2.1.size;omega) ?_;intro v10 gV cK eT rG;rw[ix]at cK;obtain⟨Aw,Ay,vU⟩:=ah cK;subst vU;have f10:=H9.o.2.1.trans ((Fr.refl (Value.slice iM p iN).ownBlock.toList _).grown eT (λk hk=>Or.inl (by simp[hk]))) (λk hk=>Or.inr (by simp at hk;exact(av H9.o.1 hk).1));have kW:=Hd (HD.o W2 gV _ H2.o f10 (nR (A:=Y.take p) (C:=(Y.drop (p+1)).take (p+1-(p+1))) (p:=p) (wl:=p+1) (by simpa[fO]using cK) hBW (eh _) HE.o) (λk hk=>(av cK hk).1));obtain⟨WS,WT,WU,WV,WW⟩:=HC.o _ (Or.inr kW.o);obtain⟨_,Ol,Om,_⟩:=KN.o gV f10;clear cK eT rG f10)
     |(at_builtin;refine wpList_append_own _ rfl _ _ 45 rfl W2.heap.size 79 i0 _ 3 32 Tryz.underlying45 hi hz0 hz1 hz2 rfl (by omega) (.slice none 0 0) 0 [] rfl (eA _ _ _ _) (Ad wg 0) p (p+1) (fO (Y.take p)) rfl hl1 zM.o (mH _) (by unfold maxLen;omega) (by omega) (eh _) ?_;intro v9 w9 aH aJ iR;rw[eV]at aH;obtain⟨iM,iN,ni⟩:=ah aH;subst ni;have H9:Hid (w9.ownsRow W2.heap.size 79 3 (.slice iM p iN) p (fO (Y.take p))∧Fr [] W2 w9∧w9.ownsRow BB 79 3 (.slice (some (Ad wg 0)) (p+1) (p+1)) (p+1) (fO Y)):=(by have f8:Fr [] W2 w9:=fR.grown aJ (λk hk=>by simp[Value.ownBlock]at hk);exact⟨aH,f8,dF KM.o f8 (by simp)⟩);have x98:cD w9 wb 8 (.slice (some (Ad wg 0)) (p+1) (p+1)):=H9.o.2.1.gb.cell x8 (by simp);clear aH aJ iR)
     |(go_at_call_of 10 (Value.int .i64 2);refine(Oi.o _).mono ?_;rintro e w' ⟨rfl,hw'⟩;have hw'':=hw'.symm;subst hw''))
    go_ret;exact⟨rfl,S8.o⟩
  go_enter Tryz.func17,Tryz.ntmps17;go_wp2;clear hW1 jT;go_region_held3 (λw'=>w'.cell? ⟨ob,2,none⟩=some (.int .i64 a)∧w'.cell? ⟨wb,8,none⟩=some (.slice (some ⟨wg,0,none⟩) (p+1) (p+1)))
   (first
     |exact⟨k2,k8⟩
     |go_keep)
   (first
     |(go_at_call 10;refine(zL.o _).mono ?_;rintro e w' ⟨rfl,hw'⟩;have hw'':=hw'.symm;subst hw''))
  all_goals
   go_wp2_with (first
    |(at_builtin;refine wpList_append_own _ rfl _ _ 45 rfl W2.heap.size 79 i0 _ 3 32 Tryz.underlying45 hi hz0 hz1 hz2 rfl (by omega) (.slice iM p iN) p (fO (Y.take p)) rfl H9.o.1 (Ad wg 0) 0 0 [] rfl rfl (λk u hu=>by simp at hu) (λu hu=>by simp at hu) (by unfold maxLen;omega) (by omega) (by have:=H9.o.2.1.size;omega) ?_;intro v10 gV cK eT rG;rw[ix]at cK;obtain⟨Aw,Ay,vU⟩:=ah cK;subst vU;have f10:=H9.o.2.1.trans ((Fr.refl (Value.slice iM p iN).ownBlock.toList _).grown eT (λk hk=>Or.inl (by simp[hk]))) (λk hk=>Or.inr (by simp at hk;exact(av H9.o.1 hk).1));have kW:=Hd (HD.o W2 gV _ H2.o f10 (nR (A:=Y.take p) (C:=(Y.drop (p+1)).take (p+1-(p+1))) (p:=p) (wl:=p+1) (by simpa[fO]using cK) hBW (eh _) HE.o) (λk hk=>(av cK hk).1));obtain⟨WS,WT,WU,WV,WW⟩:=HC.o _ (Or.inr kW.o);obtain⟨_,Ol,Om,_⟩:=KN.o gV f10;clear cK eT rG f10)
    |(at_builtin;refine wpList_append_own _ rfl _ _ 45 rfl W2.heap.size 79 i0 _ 3 32 Tryz.underlying45 hi hz0 hz1 hz2 rfl (by omega) (.slice none 0 0) 0 [] rfl (eA _ _ _ _) (Ad wg 0) p (p+1) (fO (Y.take p)) rfl hl1 zM.o (mH _) (by unfold maxLen;omega) (by omega) (eh _) ?_;intro v9 w9 aH aJ iR;rw[eV]at aH;obtain⟨iM,iN,ni⟩:=ah aH;subst ni;have H9:Hid (w9.ownsRow W2.heap.size 79 3 (.slice iM p iN) p (fO (Y.take p))∧Fr [] W2 w9∧w9.ownsRow BB 79 3 (.slice (some (Ad wg 0)) (p+1) (p+1)) (p+1) (fO Y)):=(by have f8:Fr [] W2 w9:=fR.grown aJ (λk hk=>by simp[Value.ownBlock]at hk);exact⟨aH,f8,dF KM.o f8 (by simp)⟩);have x98:cD w9 wb 8 (.slice (some (Ad wg 0)) (p+1) (p+1)):=H9.o.2.1.gb.cell x8 (by simp);clear aH aJ iR))
   go_ret;exact⟨rfl,Zm.o _ kW.o⟩
 have aao:p+1<wc:=by omega
 have Zo:((p:Int)+1)<(wc:Int):=by omega
 rcases hcase with⟨rfl,hp2⟩|rfl
 .subst hp2;go_enter Tryz.func17,Tryz.ntmps17;go_wp2;clear hW1 jT;go_region_held3 (λw'=>w'.cell? ⟨ob,2,none⟩=some (.int .i64 a)∧w'.cell? ⟨wb,8,none⟩=some (.slice (some ⟨wg,0,none⟩) wl wc))
   (first
     |exact⟨k2,k8⟩
     |go_keep)
   (first
     |(go_at_call 10;refine(zL.o _).mono ?_;rintro e w' ⟨rfl,hw'⟩;have hw'':=hw'.symm;subst hw''))
  all_goals
   go_wp2_with (first
    |(go_at_call 18;refine(JQ.o _ (Or.inr (by first|exact kW.o|exact HF.o.2 _ _ kW.o fR.drew))).mono ?_;rintro e w8 ⟨rfl,q8⟩;have S8:=Hd q8;clear q8)
    |(at_builtin;refine wpList_append_own _ rfl _ _ 45 rfl W2.heap.size 79 i0 _ 3 32 Tryz.underlying45 hi hz0 hz1 hz2 rfl (by omega) (.slice iM p iN) p (fO (Y.take p)) rfl H9.o.1 (Ad wg ((p+1)*3)) (wl-(p+1)) (wc-(p+1)) (fO ((Y.drop (p+1)).take (wl-(p+1)))) rfl hl2 (vT H9.o.2.2 (p+1) (wl-(p+1)) (by omega)) (mH _) (by unfold maxLen;omega) (by omega) (by have:=H9.o.2.1.size;omega) ?_;intro v10 gV cK eT rG;obtain⟨Aw,Ay,vU⟩:=ah cK;subst vU;have f10:=H9.o.2.1.trans ((Fr.refl (Value.slice iM p iN).ownBlock.toList _).grown eT (λk hk=>Or.inl (by simp[hk]))) (λk hk=>Or.inr (by simp at hk;exact(av H9.o.1 hk).1));have kW:=Hd (HD.o W2 gV _ H2.o f10 (nR cK hBW hws HE.o) (λk hk=>(av cK hk).1));obtain⟨WS,WT,WU,WV,WW⟩:=HC.o _ (Or.inr kW.o);obtain⟨_,Ol,Om,_⟩:=KN.o gV f10;clear cK eT rG f10)
    |(at_builtin;refine wpList_append_own _ rfl _ _ 45 rfl W2.heap.size 79 i0 _ 3 32 Tryz.underlying45 hi hz0 hz1 hz2 rfl (by omega) (.slice none 0 0) 0 [] rfl (eA _ _ _ _) (Ad wg 0) p wc (fO (Y.take p)) rfl hl1 zM.o (mH _) (by unfold maxLen;omega) (by omega) (eh _) ?_;intro v9 w9 aH aJ iR;rw[eV]at aH;obtain⟨iM,iN,ni⟩:=ah aH;subst ni;have H9:Hid (w9.ownsRow W2.heap.size 79 3 (.slice iM p iN) p (fO (Y.take p))∧Fr [] W2 w9∧w9.ownsRow BB 79 3 (.slice (some (Ad wg 0)) wl wc) wl (fO Y)):=(by have f8:Fr [] W2 w9:=fR.grown aJ (λk hk=>by simp[Value.ownBlock]at hk);exact⟨aH,f8,dF KM.o f8 (by simp)⟩);have x98:=H9.o.2.1.gb.cell x8 (by simp);clear aH aJ iR)
    |(go_at_call_of 10 (Value.int .i64 2);refine(Oi.o _).mono ?_;rintro e w' ⟨rfl,hw'⟩;have hw'':=hw'.symm;subst hw''))
   go_ret;exact⟨rfl,S8.o⟩
 go_enter Tryz.func17,Tryz.ntmps17;go_wp2;clear hW1 jT;go_region_held3 (λw'=>w'.cell? ⟨ob,2,none⟩=some (.int .i64 a)∧w'.cell? ⟨wb,8,none⟩=some (.slice (some ⟨wg,0,none⟩) wl wc))
  (first
    |exact⟨k2,k8⟩
    |go_keep)
  (first
    |(go_at_call 10;refine(zL.o _).mono ?_;rintro e w' ⟨rfl,hw'⟩;have hw'':=hw'.symm;subst hw''))
 all_goals
  go_wp2_with (first
   |(at_builtin;refine wpList_append_own _ rfl _ _ 45 rfl W2.heap.size 79 i0 _ 3 32 Tryz.underlying45 hi hz0 hz1 hz2 rfl (by omega) (.slice iM p iN) p (fO (Y.take p)) rfl H9.o.1 (Ad wg ((p+1)*3)) (wl-(p+1)) (wc-(p+1)) (fO ((Y.drop (p+1)).take (wl-(p+1)))) rfl hl2 (vT H9.o.2.2 (p+1) (wl-(p+1)) (by omega)) (mH _) (by unfold maxLen;omega) (by omega) (by have:=H9.o.2.1.size;omega) ?_;intro v10 gV cK eT rG;obtain⟨Aw,Ay,vU⟩:=ah cK;subst vU;have f10:=H9.o.2.1.trans ((Fr.refl (Value.slice iM p iN).ownBlock.toList _).grown eT (λk hk=>Or.inl (by simp[hk]))) (λk hk=>Or.inr (by simp at hk;exact(av H9.o.1 hk).1));have kW:=Hd (HD.o W2 gV _ H2.o f10 (nR cK hBW hws HE.o) (λk hk=>(av cK hk).1));obtain⟨WS,WT,WU,WV,WW⟩:=HC.o _ (Or.inr kW.o);obtain⟨_,Ol,Om,_⟩:=KN.o gV f10;clear cK eT rG f10)
   |(at_builtin;refine wpList_append_own _ rfl _ _ 45 rfl W2.heap.size 79 i0 _ 3 32 Tryz.underlying45 hi hz0 hz1 hz2 rfl (by omega) (.slice none 0 0) 0 [] rfl (eA _ _ _ _) (Ad wg 0) p wc (fO (Y.take p)) rfl hl1 zM.o (mH _) (by unfold maxLen;omega) (by omega) (eh _) ?_;intro v9 w9 aH aJ iR;rw[eV]at aH;obtain⟨iM,iN,ni⟩:=ah aH;subst ni;have H9:Hid (w9.ownsRow W2.heap.size 79 3 (.slice iM p iN) p (fO (Y.take p))∧Fr [] W2 w9∧w9.ownsRow BB 79 3 (.slice (some (Ad wg 0)) wl wc) wl (fO Y)):=(by have f8:Fr [] W2 w9:=fR.grown aJ (λk hk=>by simp[Value.ownBlock]at hk);exact⟨aH,f8,dF KM.o f8 (by simp)⟩);have x98:=H9.o.2.1.gb.cell x8 (by simp);clear aH aJ iR))
  go_ret;exact⟨rfl,Zm.o _ kW.o⟩
end
def Xu(L:Ly)(n m c:Nat)(K:Int)(w0 w':World):Prop:=∃A' V',NW L A' A' n fH V' w0 w'∧eB m K A'∧mV m c V'
section
variable {L:Ly}{A C A' C':Nt}{n n' m c d:Nat}{X X':Nat->Option Row}{w0 W W' w:World}{V V':Lw}{O:gq}{i j:Nat}{v:Value}{K:Int}{kd at' a b:Int}{t:cC}{l:Value}{zs:List Int}{lo:Option Addr}{nc:Nat}
theorem NW.O8(h:NW L A C n X V w0 W)(i:Int):Rc 19 #[.p (L.p 0).xb,.i i] W (fI (fA A.s i)) λw'=>NW L A C n X V w0 w':=by obtain⟨G,h1,_⟩:=NP.SH h 0;obtain⟨F,h2,_⟩:=h1.src;refine(Lh h2 i).mono ?_;rintro e w' ⟨he,f⟩;exact⟨he,h.same f⟩
theorem NW.O9(h:NW L A C n X V w0 W)(i:Int):Rc 20 #[.p (L.r 0).xb,.i i] W (fI (fA C.s i)) λw'=>NW L A C n X V w0 w':=by obtain⟨G,h1,_⟩:=NP.ML h 0;obtain⟨F,h2,_⟩:=h1.src;refine(Li h2 i).mono ?_;rintro e w' ⟨he,f⟩;exact⟨he,h.same f⟩
theorem Ej(hO:bE O)(h:NW L A A n fH V w0 W)(hA:eB m K A)(hn:n+3000≤1000000000)(hK:K+100≤4000000000)(hm:L.m=m)(hc:c≤1000000)(hV:mV m c V)(hl:AQ w0 lo zs nc)(ha:In64 a)(hb:In64 b)(hat:In64 at')(ht:t.size≤2000000):Rc 5 #[.p L.nb,.agg (opC kd at' a b t (.slice lo zs.length nc)).toArray] W (.bool true) λw'=>Xu L (n+2000) m (c+1) (K+40) w0 w':=by
 obtain⟨o,ho⟩:=eY (some (eO W.heap.size 32 (opC kd at' a b t (.slice lo zs.length nc))));obtain⟨W1,hW1⟩:=eX (W.alloc (.cells (opC kd at' a b t (.slice lo zs.length nc)).toArray 32));obtain⟨ob,jT⟩:=eX W.heap.size;obtain⟨wb,hwb⟩:=eX L.nb;obtain⟨xb,hxb⟩:=eX (L.p 0).xb;obtain⟨rb,hrb⟩:=eX (L.r 0).xb;obtain⟨nl,hnl⟩:=eX zs.length;have hps:=hA.s.ps;rw[hA.pl]at hps;obtain⟨Q,hQ⟩:∃P:World->Prop,P=λW=>Xu L (n+2000) m (c+1) (K+40) w0 W:=⟨_,rfl⟩;obtain⟨P0,jA⟩:∃P:World->Prop,P=λW=>∃X,X 5=o∧NW L A A n X V w0 W:=⟨_,rfl⟩;have H0:Hid (P0 W1):=by rw[jA,<-hW1];exact⟨aO fH 5 o,if_pos rfl,by rw[ho];exact h.alloc 5 32 _⟩
 have HF:Hid (∀W W',P0 W->Fr [] W W'->P0 W'):=by rw[jA];rintro W W' ⟨X,h1,h2⟩ f;exact⟨X,h1,h2.same f⟩
 obtain⟨xg,xc,yg,yc,⟨_,Oc⟩,_,hx4,_⟩:=h.SB (by omega);obtain⟨M,hM⟩:=eX L.m;rw[hM]at Oc hx4;have HC:Hid (∀W,P0 W->(W.cell? (Ad ob 0)=some (.i kd)∧W.cell? (Ad ob 1)=some (.i at')∧W.cell? (Ad ob 2)=some (.i a)∧W.cell? (Ad ob 3)=some (.i b)∧W.cell? (Ad ob 4)=some (.t t)∧W.cell? (Ad ob 5)=some (.slice lo nl nc))∧W.cell? (Ad wb 4)=some (.p xb)∧W.cell? (Ad wb 5)=some (.p rb)∧W.cell? (Ad wb 7)=some (.slice (some (Ad yg 0)) M yc)):=by rw[jA,<-hwb,<-jT,<-hxb,<-hrb,<-hnl];rintro W ⟨X,h1,h2⟩;rw[ho]at h1;have h8:=h2.cells.1;rw[hx4]at h8;exact⟨⟨h2.cell h1 0 (by simp[opC]),h2.cell h1 1 (by simp[opC]),h2.cell h1 2 (by simp[opC]),h2.cell h1 3 (by simp[opC]),h2.cell h1 4 (by simp[opC]),h2.cell h1 5 (by simp[opC])⟩,h8.2.2.1,h8.2.2.2.1,h8.2.2.2.2.2.1⟩
 have HQ:Hid (∀W,P0 W->Q W):=by rw[jA,hQ];rintro W ⟨X,_,h2⟩;exact⟨A,V,h2.clear.up (by omega),hA.le (by omega),hV.le (by omega)⟩
 have Xv:∀W,MJ L (n+100) m c (0+3) (K+1) w0 W->Xu L (n+2000) m (c+1) (K+40) w0 W:=λW⟨A',V',h1,h2,h3⟩=>⟨A',V',h1.up (by omega),h2.le (by omega),h3.1⟩;have nL:Hid (1≤kd∧kd≤13->∀W,P0 W->Rc 15 #[.p wb,.agg #[.i kd,.i at',.i a,.i b,.t t,.slice lo nl nc],.bool false] W (.bool true) λw'=>Q w'):=by rw[jA,hQ,<-hwb,<-hnl];rintro hk W ⟨X,_,h2⟩;refine(Er h2.clear (by omega) (by omega) hc hV hl hk ha hat ht).mono ?_;rintro e w' ⟨he,A',V',h3,h4,h5⟩;exact⟨he,A',V',h3.up (by omega),(h5 m K hA).le (by omega),h4⟩
 have QN:Hid (∀W,P0 W->Rc 16 #[.p wb,.agg #[.i kd,.i at',.i a,.i b,.t t,.slice lo nl nc]] W (.bool true) λw'=>Q w'):=by rw[jA,hQ,<-hwb,<-hnl];rintro W ⟨X,_,h2⟩;refine(Es (kd:=kd) (at':=at') (a:=a) (b:=b) (t:=t) (l:=.slice lo zs.length nc) hO h2.clear hA hn hK hc hV ha).mono ?_;rintro e w' ⟨he,A',V',h3,h4,h5⟩;exact⟨he,A',V',h3,h5,h4⟩
 have yT:Hid (kd=17∨kd=19->∀W,P0 W->Rc 17 #[.p wb,.agg #[.i kd,.i at',.i a,.i b,.t t,.slice lo nl nc]] W (.bool true) λw'=>Q w'):=by rw[jA,hQ,<-hwb,<-hnl];rintro hk W ⟨X,_,h2⟩;refine(Ec (at':=at') (t:=t) (l:=.slice lo zs.length nc) hO h2.clear hA (by omega) hK hm hc hV.Xw (by omega) hk ha hb).mono ?_;rintro e w' ⟨he,h9⟩;exact⟨he,Xv w' h9⟩
 have hpk:=eP at' (1+M) (by omega);obtain⟨p,hp⟩:∃p:Nat,pk at' (1+M)=(p:Int):=⟨(pk at' (1+M)).toNat,by omega⟩;rw[hp]at hpk;have zL:Hid (∀W,Rc 10 #[.i at',.i (1+(M:Int))] W (.i p) λw'=>w'=W):=λW=>by rw[<-hp];exact dh at' (1+M) W hat (by omega) (by omega)
 have JQ:Hid (∀W,P0 W->Rc 18 #[.p wb,.agg #[.i p,.i b,.t t]] W (.bool true) λw'=>Q w'):=by rw[jA,hQ,<-hwb];rintro W ⟨X,_,h2⟩;refine(oU (tn:=(p:Int)) (pe:=b) hO h2.clear hA (by omega) hK hm hc hV.Xw (by omega) ht (by omega)).mono ?_;rintro e w' ⟨he,h9⟩;exact⟨he,Xv w' h9⟩
 obtain⟨⟨u,z⟩,Xx⟩:∃y,fA A.s a=y:=⟨_,rfl⟩;have QO:Hid (∀W,P0 W->Rc 19 #[.p xb,.i a] W (.tuple #[.i u,.i z]) λw'=>P0 w'):=by rw[jA,<-hxb];rintro W ⟨X,h1,h2⟩;have h9:=h2.O8 a;rw[Xx]at h9;refine h9.mono ?_;rintro e w' ⟨he,h8⟩;exact⟨he,X,h1,h8⟩
 have QS:Hid (∀W,P0 W->Rc 20 #[.p rb,.i a] W (.tuple #[.i u,.i z]) λw'=>P0 w'):=by rw[jA,<-hrb];rintro W ⟨X,h1,h2⟩;have h9:=h2.O9 a;rw[Xx]at h9;refine h9.mono ?_;rintro e w' ⟨he,h8⟩;exact⟨he,X,h1,h8⟩
 rw[hwb]
 suffices h9:Rc 5 #[.p wb,.agg (opC kd at' a b t (.slice lo zs.length nc)).toArray] W (.bool true) λw'=>Q w' from h9.mono λe w' h=>⟨h.1,by have h2:=h.2;rw[hQ]at h2;exact h2⟩
 obtain⟨⟨k0,k1,k2,k3,k4,k5⟩,k44,k45,k47⟩:=HC.o W1 H0.o;have hMz:IntKind.i64.wrap (1+(M:Int))=1+(M:Int):=aD ⟨by omega,by omega⟩;rw[hnl]at hW1⊢;unfold opC at hW1⊢;have hcase:(1≤kd∧kd≤13)∨kd=16∨(kd=17∨kd=19)∨kd=18∨kd=20∨(¬(1≤kd∧kd≤13)∧kd≠16∧kd≠17∧kd≠19∧kd≠18∧kd≠20):=by omega
 clear h hA hV jA hQ ho hwb hxb hrb hnl hps hx4 hM Xv hpk hp Xx hl ha hb hat ht hm;rcases hcase with hk|rfl|hk|rfl|rfl|hk
 .have nL:=nL.o hk;have nL:=Hd λW=>nL W;have g1:decide (kd≥1)=true:=by simp;omega
  have g2:decide (kd≤13)=true:=by simp;omega
  have g1':(1:Int)≤kd:=hk.1;have g2':kd≤13:=hk.2;clear QN yT JQ QO QS hk;go_enter Tryz.func5,Tryz.ntmps5;go_wp2;clear hW1 jT;have j0:cE W1.drew ob 0 kd:=k0;have j1:cE W1.drew ob 1 at':=k1;have j2:cE W1.drew ob 2 a:=k2;have j3:cE W1.drew ob 3 b:=k3;have j4:cD W1.drew ob 4 (.t t):=k4;have j5:cD W1.drew ob 5 (.slice lo nl nc):=k5;first
   |go_region_with (first
    |(go_at_call 15;refine(nL.o _ (by first|exact H0.o|exact HF.o _ _ H0.o fR.drew)).mono ?_;rintro e w5 ⟨rfl,l5⟩;have H5:=Hd l5;clear l5))
   |fail
  all_goals
   go_wp2;go_ret;exact⟨rfl,H5.o⟩
 .clear nL yT JQ QO QS;go_enter Tryz.func5,Tryz.ntmps5;go_wp2_with (go_at_call 16;refine(QN.o _ (by first|exact H0.o|exact HF.o _ _ H0.o fR.drew)).mono ?_;rintro e w5 ⟨rfl,l5⟩;have H5:=Hd l5;clear l5);go_ret;exact⟨rfl,H5.o⟩
 .have yT:=yT.o hk;have yT:=Hd λW=>yT W;clear nL QN JQ QO QS;rcases hk with rfl|rfl;all_goals
   go_enter Tryz.func5,Tryz.ntmps5;go_wp2_with (go_at_call 17;refine(yT.o _ (by first|exact H0.o|exact HF.o _ _ H0.o fR.drew)).mono ?_;rintro e w5 ⟨rfl,l5⟩;have H5:=Hd l5;clear l5);go_ret;exact⟨rfl,H5.o⟩
 .clear nL QN yT QO QS;go_enter Tryz.func5,Tryz.ntmps5;go_wp2;clear hW1 jT;go_region_held3 (λw'=>w'.cell? ⟨ob,1,none⟩=some (.int .i64 at')∧w'.cell? ⟨wb,7,none⟩=some (.slice (some ⟨yg,0,none⟩) M yc))
   (first
     |exact⟨k1,k47⟩
     |go_keep)
   (first
     |(go_at_call 10;refine(zL.o _).mono ?_;rintro e w' ⟨rfl,hw'⟩;have hw'':=hw'.symm;subst hw''))
  all_goals
   have j3:cE W1.drew ob 3 b:=k3;have j4:cD W1.drew ob 4 (.t t):=k4;go_wp2_with (go_at_call 18;refine(JQ.o _ (by first|exact H0.o|exact HF.o _ _ H0.o fR.drew|exact HF.o _ _ H0.o (fR.drew).drew)).mono ?_;rintro e w5 ⟨rfl,l5⟩;have H5:=Hd l5;clear l5);go_ret;exact⟨rfl,H5.o⟩
 .clear nL QN yT JQ;go_enter Tryz.func5,Tryz.ntmps5;go_wp2;clear hW1 jT;go_region_held3 (λw'=>w'.cell? ⟨wb,4,none⟩=some (.pointer (some ⟨xb,0,none⟩))∧w'.cell? ⟨ob,2,none⟩=some (.int .i64 a))
   (first
     |exact⟨y4,y2⟩
     |exact⟨k44,k2⟩
     |go_keep)
   (first
     |(go_at_call 19;refine(QO.o _ (by first|exact H0.o|exact HF.o _ _ H0.o fR.drew)).mono ?_;rintro e w5 ⟨rfl,l5⟩;have H5:=Hd l5;obtain⟨⟨_,_,y2,_⟩,y4,y5,_⟩:=HC.o w5 l5;clear l5))
  all_goals
   go_wp2;go_region_held3 (λw'=>w'.cell? ⟨wb,5,none⟩=some (.pointer (some ⟨rb,0,none⟩))∧w'.cell? ⟨ob,2,none⟩=some (.int .i64 a))
    (first
      |exact⟨z5,z2⟩
      |exact⟨y5,y2⟩
      |go_keep)
    (first
      |(go_at_call 20;refine(QS.o _ (by first|exact H5.o|exact HF.o _ _ H5.o fR.drew)).mono ?_;rintro e w6 ⟨rfl,l6⟩;have H6:=Hd l6;obtain⟨⟨_,_,z2,_⟩,z4,z5,_⟩:=HC.o w6 l6;clear l6))
   all_goals
    go_wp2;go_ret;exact⟨rfl,HQ.o _ H6.o⟩
 obtain⟨h1,h2,h3,h4,h5,h6⟩:=hk;have e16:(kd==16)=false:=by simpa using h2
 have e17:(kd==17)=false:=by simpa using h3
 have e19:(kd==19)=false:=by simpa using h4
 have e18:(kd==18)=false:=by simpa using h5
 have e20:(kd==20)=false:=by simpa using h6
 have hc1:¬(1:Int)≤kd∨((1:Int)≤kd∧¬kd≤13):=by omega
 clear nL QN yT JQ QO QS h1 h2 h3 h4 h5 h6;rcases hc1 with g1|⟨g1,g2⟩
 .have g1':decide (kd≥1)=false:=by simp;omega
  go_enter Tryz.func5,Tryz.ntmps5;go_wp2;go_ret;exact⟨rfl,HQ.o _ (by first|exact H0.o|exact HF.o _ _ H0.o fR.drew)⟩
 have g1':decide (kd≥1)=true:=by simp;omega
 have g2':decide (kd≤13)=false:=by simp;omega
 go_enter Tryz.func5,Tryz.ntmps5;go_wp2;go_ret;exact⟨rfl,HQ.o _ (by first|exact H0.o|exact HF.o _ _ H0.o fR.drew)⟩
end
end Go.Proofs.YtjceeemlilnplaaGreatDoor
