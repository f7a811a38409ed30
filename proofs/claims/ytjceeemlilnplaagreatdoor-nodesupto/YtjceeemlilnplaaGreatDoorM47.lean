import Derived.Test.YtjceeemlilnplaaGreatDoorM46
import Derived.Test.YtjceeemlilnplaaGreatDoorM04
set_option maxRecDepth 100000
set_option maxHeartbeats 12800000
set_option linter.all false
namespace Go.Proofs.YtjceeemlilnplaaGreatDoor
open Go.RowKit Go.Maps Go.MuLone
theorem Ci(l:List (Int×cC))(i:Nat)(h:i<l.length):(iO l)[i*2]?=some (.i l[i].1)∧(iO l)[i*2+1]?=some (.t l[i].2):=by have hf:∀x:Int×cC,(([.i x.1,.t x.2]:List Value)).length=2:=λ_=>rfl;exact⟨flat_get hf l i h 0 (by omega),flat_get hf l i h 1 (by omega)⟩
theorem Ot(W:World)(a:Int)(s:cC):(binOp .neq 186 (.agg #[.i a,.t s]) (.agg #[.i a,.t s])).run Tryz.prog W=.ok (.bool false) W:=by
 have u3:=Tryz.underlying3;have a3:=Tryz.isAgg3;have z3:=Tryz.sizeOf3;have u9:=Tryz.underlying9;have a9:=Tryz.isAgg9;have z9:=Tryz.sizeOf9;have hS:Tryz.prog.underlying 186=some (.struct (Tryz.prog.fieldsOf 186)):=by kernel_rfl
 have hp:Tryz.prog.stoodInHeld 186=false:=by kernel_rfl
 rw[run_neq_struct,show(10000:Nat)=9999+1 from rfl,run_equalIn_agg W 9999 186 _ _ hS hp];simp only[Program.fieldsOf,Tryz.underlying186];go_simp
theorem qc(B:Nat)(a1 a2:Option Addr)(l:List (Int×cC))(p1 p2:Nat)(w:World)(h1:w.ownsRow B 186 2 (.slice a1 l.length p1) l.length (iO l))(h2:w.ownsRow B 186 2 (.slice a2 l.length p2) l.length (iO l))(hl:l.length≤1000):
 Rc 43 #[.slice a1 l.length p1,.slice a2 l.length p2] w (.bool true) λw'=>∃q,w'=w.drewN q:=by
 have HO:=Hj2 h1 h2;have hm:Tryz.prog.eqGuardType Tryz.prog.depth 186=false:=by kernel_rfl
 clear h1 h2;go_enter Tryz.func43,Tryz.ntmps43;go_wp2;go_loopw [5] (λi wr=>∃(k q:Nat),k≤l.length∧i=.i k∧wr=w.drewN q) (λi _=>l.length-(intOf i).toNat)
 case atStart=>exact⟨0,0,dC _,rfl,rfl⟩
 obtain⟨k,q,hk,rfl,rfl⟩:=hrel;by_cases hlt:k<l.length
 .obtain⟨b1,hb1,e1,hc1⟩:=aB HO.o.1 (by omega);obtain⟨b2,hb2,e2,hc2⟩:=aB HO.o.2 (by omega);subst hb1;subst hb2;obtain⟨⟨x,y⟩,hz⟩:∃z,l[k]=z:=⟨_,rfl⟩;have q1:=Ci l k hlt;rw[hz]at q1;have d1:∀m,cE (w.drewN m) b1 (k*2) x:=λm=>(hc1 _ (by omega)).trans q1.1;have d2:∀m,cD (w.drewN m) b1 (k*2+1) (.t y):=λm=>(hc1 _ (by omega)).trans q1.2;have d4:∀m,cE (w.drewN m) b2 (k*2) x:=λm=>(hc2 _ (by omega)).trans q1.1;have d5:∀m,cD (w.drewN m) b2 (k*2+1) (.t y):=λm=>(hc2 _ (by omega)).trans q1.2;have hne:=λW=>Ot W x y;have hltz:(k:Int)<(l.length:Int):=by omega
  clear hc1 hc2 hz q1;go_wp2;go_quiet (fail)
  go_wp2;go_roundw
  case rel=>exact⟨k+1,q+nq,by omega,by go_num,by first|rfl|trivial|simp[World.drewN,Nat.add_assoc]⟩
  simp[intOf];omega
 have hkk:k=l.length:=by omega
 subst hkk;go_wp2;go_ret;exact⟨rfl,q,rfl⟩
theorem Ao:(Tryz.prog.info? 79).map (λi=>(i.zero,i.size,i.bytes))=some (some (.agg #[.i 0,.i 0,.t ⟨#[]⟩]),3,32):=by kernel_rfl
def yB(ls:List (Int×cC)):List (Int×Int×cC):=ls.map λx=>(1+x.1,x.1,x.2)
def Aq(ls:List (Int×cC))(k:Nat):List (Int×cC):=List.replicate k (77,⟨#[]⟩)++ls.drop k
theorem Ch{ls:List (Int×cC)}{k:Nat}(h:k≤ls.length):(Aq ls k).length=ls.length:=by simp[Aq];omega
theorem Oh{ls:List (Int×cC)}{k:Nat}(h:k<ls.length)(h':k<(Aq ls k).length):(Aq ls k)[k]=ls[k]:=by simp[Aq,List.getElem_append_right]
theorem KD(l:List (Int×cC))(i:Nat)(h:i<l.length)(x:Int×cC):((iO l).set (i*2) (.i x.1)).set (i*2+1) (.t x.2)=iO (l.set i x):=by
 induction l generalizing i with
 |nil=>simp at h
 |cons y l ih=>
  have e:∀z l,iO (z::l)=.i z.1::.t z.2::iO l:=λz l=>rfl;cases i with
  |zero=>simp[e]
  |succ i=>
   have:=ih i (by simpa using h);rw[List.set_cons_succ,e,e,<-this];rw[show(i+1)*2=i*2+1+1 by omega];rfl
theorem KE{ls:List (Int×cC)}{k:Nat}(h:k<ls.length):(Aq ls k).set k (77,⟨#[]⟩)=Aq ls (k+1):=by unfold Aq;rw[fl _ _ (by simp),li,Nat.sub_self,eN h,List.set_cons_zero,List.replicate_succ'];simp
section
variable {L:Ly}{A C:Nt}{n m c:Nat}{X X':Nat->Option Row}{w0 W W' w w9:World}{V V':Lw}{ls:List (Int×cC)}{va:Option Addr}{vc:Nat}
def GoP(L:Ly)(A C:Nt)(n:Nat)(X0:Nat->Option Row)(V:Lw)(w0:World)(Y:List (Int×Int×cC))(v:Value)(l:List (Int×cC))(W:World):Prop:=∃x5 X,(X 0=some ⟨v,186,2,l.length,iO l⟩∧∀i,i≠0->X i=X0 i)∧NW L A C n X {V with E:={V.E with x5:=x5},Y:=Y} w0 W
theorem yu(h:NW L A C n X V w0 w)(hx:X 0=some ⟨.slice va ls.length vc,186,2,ls.length,iO ls⟩)(hl:ls.length≤3)(hto:∀x∈ls,0≤x.1∧x.1≤100)(hY:V.Y.length≤200000000):Rc 44 #[.p L.nb,.slice va ls.length vc] w (.tuple #[]) λw'=>∃x5 X',(∀i,i≠0->X' i=X i)∧NW L A C n X' {V with E:={V.E with x5:=x5},Y:=V.Y++yB ls} w0 w':=by
 obtain⟨i0,hi,hz0,hz1,hz2⟩:=info_parts Ao;obtain⟨l,hll⟩:=eX ls.length;obtain⟨nb,hnb⟩:=eX L.nb;obtain⟨BB,qA⟩:=eX w0.heap.size;obtain⟨G,hG⟩:∃G:Nat->World->Prop,G=λk W=>GoP L A C n X V w0 (V.Y++yB (ls.take k)) (.slice va ls.length vc) (Aq ls k) W:=⟨_,rfl⟩;have H0:Hid (G 0 w):=by rw[hG];exact⟨V.E.x5,X,⟨by simpa[Aq]using hx,λ_ _=>rfl⟩,by simpa[yB]using h⟩
 have HF:Hid (∀k W W',G k W->Fr [] W W'->G k W'):=by rw[hG];rintro k W W' ⟨x5,X,h1,h2⟩ f;exact⟨x5,X,h1,h2.same f⟩
 have HR:Hid (∀k W,k<l->G k W->∃(gg:Nat)(tn:Int)(tx:cC)(wa:Option Addr)(wl wc:Nat),(va=some (Ad gg 0)∧l≤vc∧0≤tn∧tn≤100∧wl≤200000003)∧W.cell? (Ad gg (k*2))=some (.i tn)∧W.cell? (Ad gg (k*2+1))=some (.t tx)∧W.cell? (Ad nb 8)=some (.slice wa wl wc)∧W.frozen? (Ad nb 8)=false∧(nb<W.heap.size∧BB≤W.heap.size∧(Value.slice wa wl wc).ownBlock≠some nb∧some gg≠(Value.slice wa wl wc).ownBlock∧gg<W.heap.size∧gg≠nb∧W.frozen? (Ad gg (k*2))=false∧W.frozen? (Ad gg (k*2+1))=false)∧(∃cs,W.ownsRow BB 79 3 (.slice wa wl wc) wl cs∧∀w9 g9 c9,Fr (Value.slice wa wl wc).ownBlock.toList W w9->w9.ownsRow BB 79 3 (.slice (some (Ad g9 0)) (wl+1) c9) (wl+1) (cs++[.i (1+tn),.i tn,.t tx])->((Value.slice wa wl wc).ownBlock=some g9∨W.heap.size≤g9)->G (k+1) (((w9.setCell (Ad nb 8) (.slice (some (Ad g9 0)) (wl+1) c9)).setCell (Ad gg (k*2)) (.i 77)).setCell (Ad gg (k*2+1)) (.t ⟨#[]⟩)))):=by
  rw[hG,<-hnb,<-qA,<-hll];rintro k W hk ⟨x5,X,⟨hX,hXo⟩,hW⟩;have hkl:=Ch (ls:=ls) (k:=k) (by omega);have hr:=NP.row hW hX;have hr':W.ownsRow w0.heap.size 186 2 (.slice va ls.length vc) ls.length (iO (Aq ls k)):=by rw[<-hkl];rw[hkl];simpa[hkl]using hr
  obtain⟨gg,rfl,Zl,hcc⟩:=aB hr' (by omega);have hg:=Ci (Aq ls k) k (by omega);rw[Oh hk]at hg;obtain⟨wa,wc,hwv⟩:=ah hW.lm.wo;have hwv:x5=.slice wa (V.Y++yB (ls.take k)).length wc:=hwv;have hc:=hW.cells;have hown:=hW.lm.wo;have SN:=hto ls[k] (eE hk);have hgb:gg∉Ar L {V with E:={V.E with x5:=x5},Y:=V.Y++yB (ls.take k)}:=hW.Au hX gg (by simp[Value.ownBlock]);obtain⟨_,cur,hcur⟩:=av hr' (k:=gg) (by simp[Value.ownBlock]);have hne:x5.ownBlock≠some L.nb:=λe=>by obtain⟨_,cur,h4⟩:=av hown e;rw[hW.lm.wm.blk]at h4;simp at h4
  subst hwv;refine⟨gg,ls[k].1,ls[k].2,wa,_,wc,⟨rfl,Zl,SN.1,SN.2,?_⟩,(hcc _ (by omega)).trans hg.1,(hcc _ (by omega)).trans hg.2,hc.1.2.2.2.2.2.2,hc.2.2.1,⟨hc.2.2.2.1,hc.2.2.2.2,hne,λe=>hgb (aU.2 (Or.inr (Or.inl ⟨_,by simp,e.symm⟩))),(cY.1 hcur).1,λe=>hgb (aU.2 (Or.inl e)),ay hcur _,ay hcur _⟩,_,hown,λw9 g9 c9 JM SF vP=>?_⟩
  .simp[yB];omega
  have e1:yB (ls.take (k+1))=yB (ls.take k)++[(1+ls[k].1,ls[k].1,ls[k].2)]:=by unfold yB;rw[ew hk,fj];rfl
  have h9:=(hW.Od (Y':=V.Y++yB (ls.take (k+1))) (v':=.slice (some (Ad g9 0)) ((V.Y++yB (ls.take k)).length+1) c9) JM (by
   rw[e1,<-jj,dE (bs:=[_])];have e2:∀a b,fO (a++[b])=fO a++[.i b.1,.i b.2.1,.t b.2.2]:=λa b=>by simp[fO]
   rw[e2];exact SF) (λj hj=>by
   have e:g9=j:=by simpa[Value.ownBlock]using hj
   rw[<-e];exact vP)).1
  have MQ:=NP.row h9 hX;have WK:(w9.setCell (Ad L.nb 8) (.slice (some (Ad g9 0)) ((V.Y++yB (ls.take k)).length+1) c9)).ownsRow w0.heap.size 186 2 (.slice (some (Ad gg 0)) ls.length vc) ls.length (iO (Aq ls k)):=by simpa[hkl]using MQ
  have hs:=qw (qw WK (.i 77) (j:=k*2) (by omega)) (.t ⟨#[]⟩) (j:=k*2+1) (by omega);rw[KD (Aq ls k) k (by omega) (77,⟨#[]⟩),KE hk]at hs;have hk1:=Ch (ls:=ls) (k:=k+1) (by omega);refine⟨_,_,⟨?_,λi hi=>?_⟩,NP.WL h9 hX (y':=⟨.slice (some (Ad gg 0)) ls.length vc,186,2,ls.length,iO (Aq ls (k+1))⟩) ((fR.setCell _ (Or.inl (by simp[Value.ownBlock]))).setCell _ (Or.inl (by simp[Value.ownBlock]))) hs rfl⟩
  .unfold aO;rw[if_pos rfl,hk1]
  unfold aO;rw[if_neg hi];exact hXo i hi
 have HE:Hid (∀W,G l W->∃x5 X',(∀i,i≠0->X' i=X i)∧NW L A C n X' {V with E:={V.E with x5:=x5},Y:=V.Y++yB ls} w0 W):=by rw[hG,<-hll];rintro W ⟨x5,X,h1,h2⟩;rw[eL (eh _)]at h2;exact⟨x5,X,h1.2,h2⟩
 rw[hnb,hll]
 suffices h9:Rc 44 #[.p nb,.slice va l vc] w (.tuple #[]) λw'=>G l w' from h9.mono λe w' h=>⟨h.1,HE.o w' h.2⟩
 rw[hll]at hl;clear h hx hto hY hG hnb qA hll HE;go_enter Tryz.func44,Tryz.ntmps44;go_wp2;go_loopw [4] (λi wr=>∃k:Nat,k≤l∧i=.i k∧Hid (G k wr)) (λi _=>l-(intOf i).toNat)
 case atStart=>exact⟨0,dC _,rfl,H0⟩
 obtain⟨k,hk,rfl,HK⟩:=hrel;obtain⟨W3,hW3⟩:=eY wr;subst hW3;clear H0;by_cases hlt:k<l
 .have hltz:(k:Int)<(l:Int):=by omega
  have k0:(0:Int)≤(k:Int):=by omega
  obtain⟨gg,tn,tx,wa,wl,wc,⟨hva,Zl,to0,to1,hwl⟩,d0,d1,x8,z8,⟨SG,hBw,hne,hgn,hgl,KF,WO,WQ⟩,cs,hown,hst⟩:=HR.o k W3 hlt HK.o;subst hva;have Gu:=Hd hown;have xC:=Hj2 hne hgn;have HST:=Hd hst;have w1:IntKind.i64.wrap (1+tn)=1+tn:=aD ⟨by omega,by omega⟩;clear hown hne hgn hst HR HK;go_wp2;go_region_law
   ((refine step_append_lies _ (by rfl) _ _ _ (by rfl) BB 79 i0 _ 3 32 Tryz.underlying45 hi hz0 hz1 hz2 rfl (by omega) (.slice wa wl wc) wl cs (by rfl) ((Gu.o.alloc _).drew) (Ad W3.heap.size 0) 1 1 [.i (1+tn),.i tn,.t tx] (by rfl) (by rfl) (World.news_of_block (cs:=#[.i (1+tn),.i tn,.t tx]) (t:=79) (fr:=(0,0)) (di W3 _)) (by simp[Value.oneCell']) (by omega) (by unfold maxLen;omega) (by omega) (by simp;omega) (W3.heap.size+1) (by simp) ?_;intro wg bX w9 aH hgrow hat oK;have f9:w9.frozen? (Ad nb 8)=false:=(hgrow.frozen_far (Ad nb 8) (by simp;omega) (Ne.symm xC.o.1)).trans (dW SG z8);have c9:=(hgrow.cell_far (Ad nb 8) (by simp;omega) (Ne.symm xC.o.1)).trans ((du (ei W3 _ nb SG)).trans x8)))
  all_goals
   have F9:Fr (Value.slice wa wl wc).ownBlock.toList W3 w9:=((fR.alloc _).drew).grown hgrow (λk hk=>Or.inl (by simp[hk]));have H9:=Hd (HST.o w9 wg bX F9 aH (hat.imp_right λh=>by omega));have bg:=F9.block gg hgl (λhm=>xC.o.2 (by simpa using(show(Value.slice wa wl wc).ownBlock=some gg by simpa using hm).symm));have e0:cE (w9.setCell (Ad nb 8) (.slice (some (Ad wg 0)) (wl+1) bX)) gg (k*2) tn:=(du ((de _ _ _ _ KF).trans bg)).trans d0;have e1:cD (w9.setCell (Ad nb 8) (.slice (some (Ad wg 0)) (wl+1) bX)) gg (k*2+1) (.t tx):=(du ((de _ _ _ _ KF).trans bg)).trans d1;have g0:(w9.setCell (Ad nb 8) (.slice (some (Ad wg 0)) (wl+1) bX)).frozen? (Ad gg (k*2))=false:=by unfold World.frozen? at WO⊢;rw[(de _ _ _ _ KF).trans bg];exact WO
   have g1:(w9.setCell (Ad nb 8) (.slice (some (Ad wg 0)) (wl+1) bX)).frozen? (Ad gg (k*2+1))=false:=by unfold World.frozen? at WQ⊢;rw[(de _ _ _ _ KF).trans bg];exact WQ
   clear aH hgrow hat oK f9 c9 F9 bg d0 d1 x8 z8 WO WQ;go_wp2;go_roundw
   case rel=>exact⟨k+1,by omega,by go_num,H9⟩
   simp[intOf];omega
 have hkm:k=l:=by omega
 subst hkm;go_wp2;go_end0;exact⟨rfl,HK.o⟩
end
def tQ(m c d:Nat)(V:Lw):Prop:=mV m (c+1) V∧V.Y.length≤130*c+d
section
variable {L:Ly}{A C A' C':Nt}{n n' m c d:Nat}{X X':Nat->Option Row}{w0 W W' w:World}{V V':Lw}{ls:List (Int×cC)}{va:Option Addr}{vc:Nat}{O:gq}{i j:Nat}{v:Value}{K:Int}{kd at' a b:Int}{t:cC}{l:Value}
theorem mV.Xw(h:mV m c V):tQ m c 0 V:=⟨h.le (by omega),h.yl⟩
theorem tQ.le{d':Nat}(h:tQ m c d V)(hd:d≤d'):tQ m c d' V:=⟨h.1,by have:=h.2;omega⟩
theorem tQ.push(h:tQ m c d V)(hl:qh m ls)(hd:d+3≤130)(x5:Value):tQ m c (d+3) {V with E:={V.E with x5:=x5},Y:=V.Y++yB ls}:=by
 have h2:=h.2;have hlen:(V.Y++yB ls).length≤130*c+(d+3):=by have:=hl.1;simp[yB];omega
 refine⟨⟨h.1.k4,h.1.kl,h.1.k16,λy hy=>?_,by show(V.Y++yB ls).length≤_;omega,h.1.t,h.1.tl⟩,hlen⟩;rcases dT.1 hy with h9|h9
 .exact h.1.y y h9
 obtain⟨x,hx,rfl⟩:=fm.1 h9;have:=hl.2 x hx;show(0≤1+x.1∧1+x.1≤_)∧x.2.size≤_;omega
theorem tQ.GD(h:tQ m c d V){y:Int×Int×cC}(hy:(0≤y.1∧y.1≤m)∧y.2.2.size≤2000000)(hd:d+3≤130)(x5:Value):tQ m c (d+3) {V with E:={V.E with x5:=x5},Y:=V.Y++[y]}:=by
 have h2:=h.2;refine⟨⟨h.1.k4,h.1.kl,h.1.k16,λz hz=>?_,by show(V.Y++[y]).length≤_;simp;omega,h.1.t,h.1.tl⟩,by show(V.Y++[y]).length≤_;simp;omega⟩;rcases dT.1 hz with h9|h9
 .exact h.1.y z h9
 have:z=y:=by simpa using h9
 rw[this];exact hy
theorem eB.nx{s':Sc}(h:eB m K A)(hx:Nx A.s s')(hK:K+1≤4000000000):eB m (K+1) {A with s:=s'}:=by have h9:=hx.1 K h.s h.num hK;exact⟨h9.1,h9.2,hx.2.1.trans h.pl,h.k⟩
theorem NW.MK(h:NW L A C n X V w0 W){vb:Option Addr}{vd:Nat}(h0:X 0=some ⟨.slice va ls.length vc,186,2,ls.length,iO ls⟩)(h1:X 1=some ⟨.slice vb ls.length vd,186,2,ls.length,iO ls⟩)(hl:ls.length≤3):Rc 43 #[.slice va ls.length vc,.slice vb ls.length vd] W (.bool true) λw'=>NW L A C n X V w0 w':=by refine(qc w0.heap.size va vb ls vc vd W (NP.row h h0) (NP.row h h1) (by omega)).mono ?_;rintro e w' ⟨he,q,rfl⟩;exact⟨he,h.same (fR.drewN q)⟩
def TkP(L:Ly)(n m c:Nat)(K:Int)(w0:World)(o:Option Row)(k:Nat)(W:World):Prop:=∃A V X,X 5=o∧NW L A A (n+50*k) X V w0 W∧eB m (K+k) A∧tQ m c (3*k) V
def TkQ(O:gq)(L:Ly)(n m c:Nat)(K:Int)(w0:World)(o:Option Row)(k:Nat)(va:Option Addr)(l vc:Nat)(W:World):Prop:=∃A V X,(X 5=o∧X 0=some ⟨.slice va l vc,186,2,l,iO (bC O A.s).1⟩∧(bC O A.s).1.length=l)∧NW L {A with s:=(bC O A.s).2} A (n+50*k+25) X V w0 W∧eB m (K+k) A∧tQ m c (3*k) V
def TkR(O:gq)(L:Ly)(n m c:Nat)(K:Int)(w0:World)(o:Option Row)(k:Nat)(va:Option Addr)(l vc:Nat)(vb:Option Addr)(vd:Nat)(W:World):Prop:=∃A V X,(X 5=o∧X 0=some ⟨.slice va l vc,186,2,l,iO (bC O A.s).1⟩∧X 1=some ⟨.slice vb l vd,186,2,l,iO (bC O A.s).1⟩∧(bC O A.s).1.length=l)∧NW L {A with s:=(bC O A.s).2} {A with s:=(bC O A.s).2} (n+50*k+50) X V w0 W∧eB m (K+k) A∧tQ m c (3*k) V
theorem Es(hO:bE O)(h:NW L A A n fH V w0 W)(hA:eB m K A)(hn:n+3000≤1000000000)(hK:K+100≤4000000000)(hc:c≤1000000)(hV:mV m c V)(ha:In64 a):Rc 16 #[.p L.nb,.agg (opC kd at' a b t l).toArray] W (.bool true) λw'=>∃A' V',NW L A' A' (n+2000) fH V' w0 w'∧mV m (c+1) V'∧eB m (K+40) A':=by
 obtain⟨o,ho⟩:=eY (some (eO W.heap.size 32 (opC kd at' a b t l)));obtain⟨W1,hW1⟩:=eX (W.alloc (.cells (opC kd at' a b t l).toArray 32));obtain⟨ob,jT⟩:=eX W.heap.size;obtain⟨wb,hwb⟩:=eX L.nb;obtain⟨xb,hxb⟩:=eX (L.p 0).xb;obtain⟨rb,hrb⟩:=eX (L.r 0).xb;have hpk:=eP a 40 (by omega);obtain⟨p,hp⟩:∃p:Nat,pk a 40=(p:Int):=⟨(pk a 40).toNat,by omega⟩;rw[hp]at hpk;obtain⟨T,hT⟩:=eY (TkP L n m c K w0 o);obtain⟨U,hU⟩:=eY (TkQ O L n m c K w0 o);obtain⟨R,hR⟩:=eY (TkR O L n m c K w0 o);have H0:Hid (T 0 W1):=by rw[hT,<-hW1];exact⟨A,V,aO fH 5 o,if_pos rfl,by rw[ho];exact h.alloc 5 32 _,hA.le (by omega),hV.Xw⟩
 have HF:Hid ((∀k W W',T k W->Fr [] W W'->T k W')∧(∀k a b c W W',U k a b c W->Fr [] W W'->U k a b c W')∧∀k a b c d e W W',R k a b c d e W->Fr [] W W'->R k a b c d e W'):=by
  rw[hT,hU,hR];refine⟨?_,?_,?_⟩
  .rintro k W W' ⟨A,V,X,h1,h2,h3⟩ f;exact⟨A,V,X,h1,h2.same f,h3⟩
  .rintro k a b c W W' ⟨A,V,X,h1,h2,h3⟩ f;exact⟨A,V,X,h1,h2.same f,h3⟩
  rintro k a b c d e W W' ⟨A,V,X,h1,h2,h3⟩ f;exact⟨A,V,X,h1,h2.same f,h3⟩
 have HC:Hid ((∀k W,T k W->W.cell? (Ad ob 2)=some (.i a)∧W.cell? (Ad wb 4)=some (.p xb))∧∀k a b c W,U k a b c W->W.cell? (Ad wb 5)=some (.p rb)):=by
  rw[hT,hU,<-hwb,<-hxb,<-hrb,<-jT];refine⟨?_,?_⟩
  .rintro k W ⟨A,V,X,h1,h2,_⟩;rw[ho]at h1;exact⟨h2.cell h1 2 (by simp[opC]),h2.cells.1.2.2.1⟩
  rintro k a b c W ⟨A,V,X,_,h2,_⟩;exact h2.cells.1.2.2.2.1
 have zL:Hid (∀W,Rc 10 #[.i a,.i 40] W (.i p) λw'=>w'=W):=λW=>by rw[<-hp];exact dh a 40 W ha (by omega) (by omega)
 have H41:Hid (∀k W,k≤40->T k W->Cl 41 #[.p xb] W λe w'=>∃va l vc,e=.returned (.slice va l vc)∧U k va l vc w'):=by
  rw[hT,hU,<-hxb];rintro k W hk ⟨A,V,X,h1,h2,h3,h4⟩;refine(h2.SC 0 (ls:=(bC O A.s).1) (s':=(bC O A.s).2) (n':=n+50*k+25) (by omega) lX.1.2.2 λF hF=>?_).mono ?_
  .exact PG.tick hO hF h3.s h3.num (by omega) (by omega)
  rintro e w' ⟨va,vc,he,h9⟩;exact⟨va,_,vc,he,A,V,_,⟨by simp[aO,h1],if_pos rfl,rfl⟩,h9,h3,h4⟩
 have H42:Hid (∀k va l vc W,k≤40->U k va l vc W->Cl 42 #[.p rb] W λe w'=>∃vb vd,e=.returned (.slice vb l vd)∧R k va l vc vb vd w'):=by
  rw[hU,hR,<-hrb];rintro k va l vc W hk ⟨A,V,X,⟨h1,h0,hl⟩,h2,h3,h4⟩;refine(h2.SE 1 (ls:=(bC O A.s).1) (s':=(bC O A.s).2) (n':=n+50*k+50) (by omega) lX.1.2.2 λF hF=>?_).mono ?_
  .exact RG.tick hO hF h3.s h3.num (by omega) (by omega)
  rintro e w' ⟨vb,vd,he,h9⟩;rw[hl]at he h9;exact⟨vb,vd,he,A,V,_,⟨by simp[aO,h1],by simp[aO,h0],if_pos rfl,hl⟩,h9,h3,h4⟩
 have WA:Hid (∀k va l vc vb vd W,k≤40->R k va l vc vb vd W->Rc 43 #[.slice va l vc,.slice vb l vd] W (.bool true) λw'=>R k va l vc vb vd w'):=by rw[hR];rintro k va l vc vb vd W hk ⟨A,V,X,⟨h5,h0,h1,hl⟩,h2,h3,h4⟩;have hlt:=(lX (O:=O)).2 h3.s _ h3.num (by omega);subst hl;refine(h2.MK h0 h1 hlt.1).mono ?_;rintro e w' ⟨he,h9⟩;exact⟨he,A,V,X,⟨h5,h0,h1,rfl⟩,h9,h3,h4⟩
 have WB:Hid (∀k va l vc vb vd W,k≤40->R k va l vc vb vd W->Rc 44 #[.p wb,.slice va l vc] W (.tuple #[]) λw'=>T (k+1) w'):=by rw[hR,hT,<-hwb];rintro k va l vc vb vd W hk ⟨A,V,X,⟨h5,h0,h1,hl⟩,h2,h3,h4⟩;have hlt:=(lX (O:=O)).2 h3.s _ h3.num (by omega);have hps:=h3.s.ps;rw[h3.pl]at hlt hps;subst hl;refine(yu h2 h0 hlt.1 (λx hx=>by have:=hlt.2 x hx;omega) (by have:=h4.2;omega)).mono ?_;rintro e w' ⟨he,x5,X',Zh,h9⟩;have e1:=h3.nx (lX (O:=O)).1 (by omega);rw[show n+50*k+50=n+50*(k+1) by omega]at h9;rw[show K+(k:Int)+1=K+((k+1:Nat):Int) by omega]at e1;exact⟨he,_,_,X',(Zh 5 (by omega)).trans h5,h9,e1,h4.push hlt (by omega) x5⟩
 have HE:Hid (∀k W,k≤40->T k W->∃A' V',NW L A' A' (n+2000) fH V' w0 W∧mV m (c+1) V'∧eB m (K+40) A'):=by rw[hT];rintro k W hk ⟨A,V,X,_,h2,h3,h4⟩;exact⟨A,V,h2.clear.up (by omega),h4.1,h3.le (by omega)⟩
 rw[hwb]
 suffices h9:Rc 16 #[.p wb,.agg (opC kd at' a b t l).toArray] W (.bool true) λw'=>∃k,k≤40∧T k w' from h9.mono λe w'⟨h1,k,h2,h3⟩=>⟨h1,HE.o k w' h2 h3⟩
 have aax:p<40:=by omega
 unfold opC at hW1⊢;have hpz:IntKind.i64.wrap (1+(p:Int))=((1+p:Nat):Int):=by rw[show((1+p:Nat):Int)=1+(p:Int) by omega];exact aD ⟨by omega,by omega⟩
 clear h hA hV ha hT hU hR ho hwb hxb hrb hp hpk HE;go_enter Tryz.func16,Tryz.ntmps16;go_wp2;clear hW1 jT;go_loopw [5] (λi wr=>∃k:Nat,k≤1+p∧i=.i k∧Hid (T k wr)) (λi _=>1+p-(intOf i).toNat)
 case atStart=>exact⟨0,dC _,rfl,H0⟩
 obtain⟨k,hk,rfl,HK⟩:=hrel;obtain⟨W3,hW3⟩:=eY wr;subst hW3;clear H0;obtain⟨c2,c4⟩:=HC.o.1 k W3 HK.o;by_cases hlt:k<1+p
 .have hltz:(k:Int)<((1+p:Nat):Int):=by omega
  go_wp2_with (first
   |(go_at_call 44;refine(WB.o k va l vc vb vd _ (by omega) (by first|exact S7.o|exact HF.o.2.2 _ _ _ _ _ _ _ _ S7.o fR.drew)).mono ?_;rintro e w8 ⟨rfl,q8⟩;have S8:=Hd q8;clear q8)
   |(go_at_call 43;refine(WA.o k va l vc vb vd _ (by omega) (by first|exact S6.o|exact HF.o.2.2 _ _ _ _ _ _ _ _ S6.o fR.drew)).mono ?_;rintro e w7 ⟨rfl,q7⟩;have S7:=Hd q7;clear q7)
   |(go_at_call 42;refine(H42.o k va l vc _ (by omega) (by first|exact S5.o|exact HF.o.2.1 _ _ _ _ _ _ S5.o fR.drew)).mono ?_;rintro e w6 ⟨vb,vd,rfl,q6⟩;have S6:=Hd q6;clear q6)
   |(go_at_call 41;refine(H41.o k _ (by omega) (by first|exact HK.o|exact HF.o.1 _ _ _ HK.o fR.drew)).mono ?_;rintro e w5 ⟨va,l,vc,rfl,q5⟩;have S5:=Hd q5;have c5:=HC.o.2 _ _ _ _ _ q5;clear q5)
   |(go_at_call 10;refine(zL.o _).mono ?_;rintro e w' ⟨rfl,hw'⟩;have hw'':=hw'.symm;subst hw''))
  go_roundw
  case rel=>exact⟨k+1,by omega,by go_num,S8⟩
  simp[intOf];omega
 have hkk:k=1+p:=by omega
 have hltz:¬(k:Int)<((1+p:Nat):Int):=by omega
 go_wp2_with (go_at_call 10;refine(zL.o _).mono ?_;rintro e w' ⟨rfl,hw'⟩;have hw'':=hw'.symm;subst hw'');go_ret;exact⟨rfl,k,by omega,HK.o⟩
end
def MJ(L:Ly)(n m c d:Nat)(K:Int)(w0 w':World):Prop:=∃A' V',NW L A' A' n fH V' w0 w'∧eB m K A'∧tQ m c d V'
section
variable {L:Ly}{A C A' C':Nt}{n n' m c d:Nat}{X X':Nat->Option Row}{w0 W W' w:World}{V V':Lw}{ls:List (Int×cC)}{va:Option Addr}{vc:Nat}{O:gq}{i j:Nat}{v:Value}{K:Int}{tn pe:Int}{tx:cC}{x:Rp}
theorem KA:(gU O x tx).2.rs=x.rs∧(gU O x tx).2.last=x.last∧(gU O x tx).1.size≤2000:=by
 have hs:∀k g,(JO k tx g).size≤2000:=λk g=>by show(bU _).size≤2000;rw[Am,dE,oQ];simp[B4.list']
 unfold gU;split
 .exact⟨rfl,rfl,hs _ _⟩
 split
 .exact⟨rE.1,rE.2,hs _ _⟩
 exact⟨rfl,rfl,dC _⟩
theorem eB.fQ(h:eB m K A)(hx:pX x):eB m K (A.fQ j x):=⟨h.s,h.num,h.pl,λi=>by
 unfold Nt.fQ;by_cases e:i=j
 .simp only[e,if_true];exact hx
 simp only[e,if_false];exact h.k i⟩
theorem NW.SB(h:NW L A C n X V w0 W)(hm:1≤L.m):∃xg xc yg yc,(L.m≤xc∧L.m≤yc)∧V.E.x3=.slice (some (Ad xg 0)) L.m xc∧V.E.x4=.slice (some (Ad yg 0)) L.m yc∧∀n A C X W,NW L A C n X V w0 W->∀i,i<L.m->W.cell? (Ad xg i)=some (.p (L.p (i+1)).xb)∧W.cell? (Ad yg i)=some (.p (L.r (i+1)).xb):=by
 have h1:=h.lm.xo;have h2:=h.lm.yo;obtain⟨xa,xc,hx⟩:=ah h1;obtain⟨ya,yc,hy⟩:=ah h2;rw[hx]at h1;rw[hy]at h2;obtain⟨xg,rfl,hxc,_⟩:=aB h1 (by omega);obtain⟨yg,rfl,Oc,_⟩:=aB h2 (by omega);refine⟨xg,xc,yg,yc,⟨hxc,Oc⟩,hx,hy,λn A C X W h i hi=>?_⟩;have h1:=h.lm.xo;have h2:=h.lm.yo;rw[hx]at h1;rw[hy]at h2;obtain⟨g1,e1,_,c1⟩:=aB h1 (by omega);obtain⟨g2,e2,_,c2⟩:=aB h2 (by omega);have e1:xg=g1:=by simpa using e1
 have e2:yg=g2:=by simpa using e2
 subst e1;subst e2;refine⟨?_,?_⟩
 .rw[c1 i (by omega),List.getElem?_map,List.getElem?_range hi];rfl
 rw[c2 i (by omega),List.getElem?_map,List.getElem?_range hi];rfl
theorem D8(hO:bE O)(h:NW L A A n fH V w0 W)(hA:eB m K A)(hn:n+300≤1000000000)(hK:K+100≤4000000000)(hc:c≤1000000)(hV:tQ m c d V)(hd:d+3≤130)(hsz:tx.size≤2000000):Rc 18 #[.p L.nb,.agg #[.i 0,.i pe,.t tx]] W (.bool true) λw'=>MJ L (n+100) m c (d+3) (K+1) w0 w':=by
 obtain⟨o,ho⟩:=eY (some (eO W.heap.size 79 [.i 0,.i pe,.t tx]));obtain⟨W1,hW1⟩:=eX (W.alloc (.cells #[.i 0,.i pe,.t tx] 79));obtain⟨ob,jT⟩:=eX W.heap.size;obtain⟨wb,hwb⟩:=eX L.nb;obtain⟨xb,hxb⟩:=eX (L.p 0).xb;obtain⟨rb,hrb⟩:=eX (L.r 0).xb;obtain⟨s',hs'⟩:=eX (bI O A.s pe tx).2;obtain⟨ls,hls⟩:=eX (bI O A.s pe tx).1;obtain⟨l,hl⟩:=eX ls.length;have hr:=(NP.ok h (show 0≤L.m by omega)).1;have hr:Ok n A.s.r:=hr;obtain⟨hnx,hlt⟩:=GA (s:=A.s) (i:=pe) (t:=tx) hO hr (by omega);rw[hs']at hnx;rw[hls,hA.pl]at hlt;have hps:=hA.s.ps;rw[hA.pl]at hps;obtain⟨P0,jA⟩:∃P:World->Prop,P=λW=>∃X,X 5=o∧NW L A A n X V w0 W:=⟨_,rfl⟩;obtain⟨P1,hP1⟩:∃P:Option Addr->Nat->World->Prop,P=λva vc W=>∃X,(X 5=o∧X 0=some ⟨.slice va l vc,186,2,l,iO ls⟩)∧NW L {A with s:=s'} A (n+6) X V w0 W:=⟨_,rfl⟩;obtain⟨P2,hP2⟩:∃P:Option Addr->Nat->Option Addr->Nat->World->Prop,P=λva vc vb vd W=>∃X,(X 5=o∧X 0=some ⟨.slice va l vc,186,2,l,iO ls⟩∧X 1=some ⟨.slice vb l vd,186,2,l,iO ls⟩)∧NW L {A with s:=s'} {A with s:=s'} (n+12) X V w0 W:=⟨_,rfl⟩;obtain⟨Q,hQ⟩:∃P:World->Prop,P=λW=>MJ L (n+100) m c (d+3) (K+1) w0 W:=⟨_,rfl⟩;have H0:Hid (P0 W1):=by rw[jA,<-hW1];exact⟨aO fH 5 o,if_pos rfl,by rw[ho];exact h.alloc 5 79 _⟩
 have HF:Hid ((∀W W',P0 W->Fr [] W W'->P0 W')∧(∀a b W W',P1 a b W->Fr [] W W'->P1 a b W')∧∀a b c d W W',P2 a b c d W->Fr [] W W'->P2 a b c d W'):=by
  rw[jA,hP1,hP2];refine⟨?_,?_,?_⟩
  .rintro W W' ⟨X,h1,h2⟩ f;exact⟨X,h1,h2.same f⟩
  .rintro a b W W' ⟨X,h1,h2⟩ f;exact⟨X,h1,h2.same f⟩
  rintro a b c d W W' ⟨X,h1,h2⟩ f;exact⟨X,h1,h2.same f⟩
 have HC:Hid ((∀W,P0 W->W.cell? (Ad ob 0)=some (.i 0)∧W.cell? (Ad ob 1)=some (.i pe)∧W.cell? (Ad ob 2)=some (.t tx)∧W.cell? (Ad wb 4)=some (.p xb))∧(∀a b W,P1 a b W->W.cell? (Ad ob 1)=some (.i pe)∧W.cell? (Ad ob 2)=some (.t tx)∧W.cell? (Ad wb 5)=some (.p rb)∧W.cell? (Ad wb 4)=some (.p xb))∧∀a b c d W,P2 a b c d W->W.cell? (Ad ob 1)=some (.i pe)∧W.cell? (Ad ob 2)=some (.t tx)∧W.cell? (Ad wb 5)=some (.p rb)):=by
  rw[jA,hP1,hP2,<-hwb,<-hxb,<-hrb,<-jT];refine⟨?_,?_,?_⟩
  .rintro W ⟨X,h1,h2⟩;rw[ho]at h1;exact⟨h2.cell h1 0 (by simp),h2.cell h1 1 (by simp),h2.cell h1 2 (by simp),h2.cells.1.2.2.1⟩
  .rintro a b W ⟨X,⟨h1,_⟩,h2⟩;rw[ho]at h1;exact⟨h2.cell h1 1 (by simp),h2.cell h1 2 (by simp),h2.cells.1.2.2.2.1,h2.cells.1.2.2.1⟩
  rintro a b c d W ⟨X,⟨h1,_⟩,h2⟩;rw[ho]at h1;exact⟨h2.cell h1 1 (by simp),h2.cell h1 2 (by simp),h2.cells.1.2.2.2.1⟩
 have H45:Hid (∀W,P0 W->Cl 45 #[.p xb,.i pe,.t tx] W λe w'=>∃va vc,e=.returned (.slice va l vc)∧P1 va vc w'):=by
  rw[jA,hP1,<-hxb,<-hl];rintro W ⟨X,h1,h2⟩;refine(h2.SC 0 (ls:=ls) (s':=s') (n':=n+6) (by omega) hnx.2.2 λF hF=>?_).mono ?_
  .have h9:=PG.take hO hF hA.s pe tx hsz (by omega);rw[hs',hls]at h9;exact h9
  rintro e w' ⟨va,vc,he,h9⟩;exact⟨va,vc,he,_,⟨by simp[aO,h1],if_pos rfl⟩,h9⟩
 have H46:Hid (∀va vc W,P1 va vc W->Cl 46 #[.p rb,.i pe,.t tx] W λe w'=>∃vb vd,e=.returned (.slice vb l vd)∧P2 va vc vb vd w'):=by
  rw[hP1,hP2,<-hrb,<-hl];rintro va vc W ⟨X,⟨h1,h0⟩,h2⟩;refine(h2.SE 1 (ls:=ls) (s':=s') (n':=n+12) (by omega) hnx.2.2 λF hF=>?_).mono ?_
  .have h9:=RG.take hO hF hA.s pe tx hsz (by omega);rw[hs',hls]at h9;exact h9
  rintro e w' ⟨vb,vd,he,h9⟩;exact⟨vb,vd,he,_,⟨by simp[aO,h1],by simp[aO,h0],if_pos rfl⟩,h9⟩
 have WA:Hid (∀va vc vb vd W,P2 va vc vb vd W->Rc 43 #[.slice va l vc,.slice vb l vd] W (.bool true) λw'=>P2 va vc vb vd w'):=by rw[hP2,<-hl];rintro va vc vb vd W ⟨X,⟨h5,h0,h1⟩,h2⟩;refine(h2.MK h0 h1 hlt.1).mono ?_;rintro e w' ⟨he,h9⟩;exact⟨he,X,⟨h5,h0,h1⟩,h9⟩
 have WB:Hid (∀va vc vb vd W,P2 va vc vb vd W->Rc 44 #[.p wb,.slice va l vc] W (.tuple #[]) λw'=>Q w'):=by rw[hP2,hQ,<-hwb,<-hl];rintro va vc vb vd W ⟨X,⟨h5,h0,h1⟩,h2⟩;refine(yu h2 h0 hlt.1 (λx hx=>by have:=hlt.2 x hx;omega) (by have:=hV.2;omega)).mono ?_;rintro e w' ⟨he,x5,X',Zh,h9⟩;exact⟨he,_,_,h9.clear.up (by omega),hA.nx hnx (by omega),hV.push hlt hd x5⟩
 rw[hwb]
 suffices h9:Rc 18 #[.p wb,.agg #[.i 0,.i pe,.t tx]] W (.bool true) λw'=>Q w' from h9.mono λe w' h=>⟨h.1,by have h2:=h.2;rw[hQ]at h2;exact h2⟩
 obtain⟨k0,k1,k2,k4⟩:=HC.o.1 W1 H0.o;clear h hA hV jA hP1 hP2 hQ ho hwb hxb hrb hs' hls hl hr hnx hlt hps;go_enter Tryz.func18,Tryz.ntmps18;go_wp2;clear hW1 jT;go_region_held3 (λw'=>w'.cell? ⟨ob,1,none⟩=some (.int .i64 pe)∧w'.cell? ⟨ob,2,none⟩=some (.string tx)∧w'.cell? ⟨wb,4,none⟩=some (.pointer (some ⟨xb,0,none⟩)))
  (first
    |exact⟨y1,y2,y4⟩
    |exact⟨k1,k2,k4⟩
    |go_keep)
  (first
    |(go_at_call 45;refine(H45.o _ (by first|exact H0.o|exact HF.o.1 _ _ H0.o fR.drew|exact HF.o.1 _ _ H0.o (fR.drewN _))).mono ?_;rintro e w5 ⟨va,vc,rfl,q5⟩;have S5:=Hd q5;obtain⟨y1,y2,y5,y4⟩:=HC.o.2.1 _ _ _ q5;clear q5))
 all_goals
  go_wp2;go_region_held3 (λw'=>w'.cell? ⟨ob,1,none⟩=some (.int .i64 pe)∧w'.cell? ⟨ob,2,none⟩=some (.string tx)∧w'.cell? ⟨wb,5,none⟩=some (.pointer (some ⟨rb,0,none⟩)))
   (first
     |exact⟨z1,z2,z5⟩
     |exact⟨y1,y2,y5⟩
     |go_keep)
   (first
     |(go_at_call 46;refine(H46.o _ _ _ (by first|exact S5.o|exact HF.o.2.1 _ _ _ _ S5.o fR.drew|exact HF.o.2.1 _ _ _ _ S5.o (fR.drewN _))).mono ?_;rintro e w6 ⟨vb,vd,rfl,q6⟩;have S6:=Hd q6;obtain⟨z1,z2,z5⟩:=HC.o.2.2 _ _ _ _ _ q6;clear q6))
  all_goals
   go_wp2_with (first
    |(go_at_call 44;refine(WB.o va vc vb vd _ (by first|exact S7.o|exact HF.o.2.2 _ _ _ _ _ _ S7.o fR.drew)).mono ?_;rintro e w8 ⟨rfl,q8⟩;have S8:=Hd q8;clear q8)
    |(go_at_call 43;refine(WA.o va vc vb vd _ (by first|exact S6.o|exact HF.o.2.2 _ _ _ _ _ _ S6.o fR.drew)).mono ?_;rintro e w7 ⟨rfl,q7⟩;have S7:=Hd q7;clear q7))
   go_ret;exact⟨rfl,S8.o⟩
end
end Go.Proofs.YtjceeemlilnplaaGreatDoor
