import Derived.Test.YtjceeemlilnplaaGreatDoorM11
set_option maxRecDepth 100000
set_option maxHeartbeats 12800000
set_option linter.all false
namespace Go.Proofs.YtjceeemlilnplaaGreatDoor
open Go.RowKit Go.Maps Go.MuLone
theorem A9(t:cC)(w:World)(h4:t.size≤4)(hc:((t.extract (bW t) t.size).toList==(kE (t.extract 0 (bW t)).data.toList).ba.toList)=true):
 Rc 125 #[.t t] w (.tuple #[jZ,.bool false]) λw'=>Fr [] w w':=by
 obtain⟨i0,hi,hz0,hz1,hz2⟩:=info_parts wH;have hca:bW t=0:=by unfold bW;omega
 have Ug:t.extract 0 0=ByteArray.empty:=by simp
 rw[hca,Ug]at hc;have HC:Hid (∀W,Rc 111 #[.t ByteArray.empty] W (.t (kE ByteArray.empty.data.toList).ba) λw'=>Fr [] W w'):=λW=>jF _ W (by show 0≤2000000;omega);obtain⟨ck,hck⟩:=eX (kE ByteArray.empty.data.toList).ba;rw[hck]at HC hc;obtain⟨n,hn⟩:=eX t.size;rw[hn]at hc h4;have hneg:(n:Int)-4≤0:=by omega
 obtain⟨w0,hw0⟩:=eX (w.alloc (.cells #[.i 0,.i 0,.i 0,.i 0,.slice none 0 0] 161));obtain⟨bx,hbx⟩:=eX w.heap.size;have b0:w0.heap[bx]?=some z116:=by rw[<-hw0,<-hbx];exact di w _
 have HB:Hid (w0.heap[bx]?=some z116∧Fr [] w w0∧w.heap.size=bx∧ByteArray.empty.size≤2000000):=⟨b0,by rw[<-hw0];exact fR.alloc _,hbx,by show 0≤2000000;omega⟩;have Ku:Hid (∀W,Rc 128 #[.t ByteArray.empty] W (.p W.heap.size) λw'=>gQ w' W.heap.size ByteArray.empty false∧Fr [] W w'):=λW=>jO _ W;have HT0:Hid (∀W rb,PJ w W bx rb (ByteArray.empty,false)->Rc 132 #[.p rb,.i 4] W (.t (dU ByteArray.empty 4)) λw'=>PJ w w' bx rb (q1 ByteArray.empty)∧Fr [rb] W w'):=λW rb h=>h.text;have CJ:Hid (∀W rb,PJ w W bx rb (q1 ByteArray.empty)->Rc 130 #[.p rb] W (.i (qf ByteArray.empty:Int)) λw'=>PJ w w' bx rb (q2 ByteArray.empty)∧Fr [rb] W w'):=λW rb h=>h.number;have DJ:Hid (∀W rb,PJ w W bx rb (q2 ByteArray.empty)->Rc 130 #[.p rb] W (.i (qt ByteArray.empty:Int)) λw'=>PJ w w' bx rb (q3 ByteArray.empty)∧Fr [rb] W w'):=λW rb h=>h.number;have Pw:Hid (∀W rb,PJ w W bx rb (q3 ByteArray.empty)->Rc 130 #[.p rb] W (.i (qm ByteArray.empty:Int)) λw'=>PJ w w' bx rb (q4 ByteArray.empty)∧Fr [rb] W w'):=λW rb h=>h.number;have Px:Hid (∀W rb,PJ w W bx rb (q4 ByteArray.empty)->Rc 129 #[.p rb] W (.i (qb ByteArray.empty:Int)) λw'=>PJ w w' bx rb (q5 ByteArray.empty)∧Fr [rb] W w'):=λW rb h=>h.byte;have Py:Hid (∀W rb bs f t' m nb vf l,PK w W bx rb bs (q5 ByteArray.empty) f t' m nb vf l->Rc 129 #[.p rb] W (.i (qn ByteArray.empty:Int)) λw'=>PK w w' bx rb bs (q6 ByteArray.empty) f t' m nb vf l):=λW rb bs f t' m nb vf l h=>h.pj.byte.mono λ_ _⟨e,a,b⟩=>⟨e,h.read a b⟩;have Cz:qn ByteArray.empty<256:=nZ _ (gK _ 1);have HQ:Hid (((eu (q6 ByteArray.empty) (qn ByteArray.empty)).1=ql ByteArray.empty)∧(eu (q6 ByteArray.empty) (qn ByteArray.empty)).2=qe ByteArray.empty):=⟨rfl,rfl⟩;obtain⟨fv,IK⟩:=eX (qf ByteArray.empty);obtain⟨tv,oI⟩:=eX (qt ByteArray.empty);obtain⟨mv,hmv⟩:=eX (qm ByteArray.empty);obtain⟨nv,jR⟩:=eX (qb ByteArray.empty);obtain⟨N,hN⟩:=eX (qn ByteArray.empty);obtain⟨r6,Pz⟩:=eX (q6 ByteArray.empty);obtain⟨lL,IL⟩:=eX (ql ByteArray.empty);rw[IK]at CJ;rw[oI]at DJ;rw[hmv]at Pw;rw[jR]at Px;rw[hN,Pz]at Py;rw[hN]at Cz;rw[hN,Pz,IL]at HQ;have dV:=hw0;clear hw0 b0 hck hca Ug IK oI hmv jR hN Pz IL;go_enter Tryz.func125,Tryz.ntmps125;go_wp2;go_region_with
  (first
    |(go_at_call 111;refine(HC.o _).mono ?_;rintro e w5 ⟨rfl,f5⟩;have F5:Hid (Fr [] w0 w5):=((Fr.refl [] w0).drew).tr f5;clear f5))
 go_wp2_with (first
  |(go_at_call 128;refine(Ku.o _).mono ?_;rintro e w6 ⟨rfl,r6,f6⟩;have H6:Hid (PJ w w6 bx w5.heap.size (ByteArray.empty,false)):=⟨r6,(HB.o.2.1.tr F5.o).tr f6,(by rw[(F5.o.tr f6).block bx (cY.1 HB.o.1).1 (by simp)];exact HB.o.1),(HB.o.2.1.tr F5.o).size,HB.o.2.2.2⟩;clear r6 f6)
  |(go_at_call 132;refine(HT0.o _ _ H6.o).mono ?_;rintro e w7 ⟨rfl,r7,f7⟩;have H7:Hid (PJ w w7 bx w5.heap.size (q1 ByteArray.empty)):=r7;clear r7 f7)
  |(go_at_call 130;refine(Pw.o _ _ H9.o).mono ?_;rintro e gV ⟨rfl,Um,f10⟩;have kW:Hid (PJ w gV bx w5.heap.size (q4 ByteArray.empty)):=Um;clear Um f10)
  |(go_at_call 130;refine(DJ.o _ _ H8.o).mono ?_;rintro e w9 ⟨rfl,r9,f9⟩;have H9:Hid (PJ w w9 bx w5.heap.size (q3 ByteArray.empty)):=r9;clear r9 f9)
  |(go_at_call 130;refine(CJ.o _ _ H7.o).mono ?_;rintro e w8 ⟨rfl,r8,f8⟩;have H8:Hid (PJ w w8 bx w5.heap.size (q2 ByteArray.empty)):=r8;clear r8 f8)
  |(go_at_call 129;refine(Py.o _ _ _ _ _ _ _ _ _ HX.o).mono ?_;rintro e Eh ⟨rfl,Un⟩;have Cm:Hid (PK w Eh bx w5.heap.size oG.heap.size r6 fv tv mv nv (.slice none 0 0) []):=Un;clear Un)
  |(go_at_call 129;refine(Px.o _ _ kW.o).mono ?_;rintro e oG ⟨rfl,LC,f11⟩;have HX:Hid (PK w (oG.alloc (.cells #[.i fv,.i tv,.i mv,.i nv,.slice none 0 0] 161)) bx w5.heap.size oG.heap.size (q5 ByteArray.empty) fv tv mv nv (.slice none 0 0) []):=⟨LC.alloc _,di oG _,eA _ _ _ _,LC.fr.size,Nat.ne_of_gt (cY.1 LC.box).1⟩;clear LC f11))
 obtain⟨sg,hsg⟩:=eX ((dU ByteArray.empty 4).toList==[83,78,68,49]);have VP:Hid (((dU ByteArray.empty 4).toList==[83,78,68,49])=sg):=hsg;rw[hsg];obtain⟨rb,hrb⟩:=eX w5.heap.size;obtain⟨bs,hbs⟩:=eX oG.heap.size;rw[hrb,hbs]at Cm;rw[hrb,hbs];clear hsg hrb hbs HX kW H9 H8 H7 H6 CJ DJ Pw Px Py HT0 Ku HC F5 dV hc hneg h4;go_loopw [40] (λi wr=>∃(k:Nat)(vf:Value),k≤N∧i=.i k∧Hid (PK w wr bx rb bs (eu r6 k).2 fv tv mv nv vf (eu r6 k).1)) (λi _=>N-(intOf i).toNat)
 case atStart=>exact⟨0,_,dC _,rfl,Cm⟩
 obtain⟨k,vf,hk,rfl,HK⟩:=hrel;obtain⟨W3,hW3⟩:=eY wr;subst hW3;clear Cm;have hlen:=nY r6 k;obtain⟨fa,fc,hsh⟩:=ah HK.o.row;rw[hlen]at hsh;subst hsh;by_cases hlt:k<N
 .have hltz:(k:Int)<(N:Int):=by omega
  have hsucc:=pz r6 k;obtain⟨l,hl⟩:=eX (eu r6 k).1;obtain⟨r,hr⟩:=eX (eu r6 k).2;rw[hl,hr]at HK;rw[hl]at hlen;rw[hl,hr]at hsucc;have Ew:Hid (Rc 129 #[.p rb] W3 (.i (bq (dU r.1 1).data.toList:Int)) λw'=>PK w w' bx rb bs (je r 1) fv tv mv nv (.slice fa k fc) l):=HK.o.pj.byte.mono λ_ _⟨e,a,b⟩=>⟨e,HK.o.read a b⟩;have uI:Hid (∀W,PK w W bx rb bs (je r 1) fv tv mv nv (.slice fa k fc) l->Rc 132 #[.p rb,.i 4] W (.t (dU (je r 1).1 4)) λw'=>PK w w' bx rb bs (je (je r 1) 4) fv tv mv nv (.slice fa k fc) l∧Fr [rb] W w'):=λW h=>h.pj.text.mono λ_ _⟨e,a,b⟩=>⟨e,h.read a b,b⟩;have hxs:=CX (je r 1).1 4;obtain⟨z,hz⟩:=eX (bq (dU r.1 1).data.toList);obtain⟨x,hx⟩:=eX (dU (je r 1).1 4);obtain⟨r1,hr1⟩:=eX (je r 1);rw[hz]at Ew;rw[hx]at uI hxs;rw[hz,hx]at hsucc;rw[hr1]at Ew uI hsucc;have HS:Hid (eu r6 (k+1)=(l++[((z:Int),b4 x)],je r1 4)∧l.length=k∧(x.size=0∨x.size=4)):=⟨hsucc,hlen,hxs⟩;obtain⟨y,hy⟩:=eX (b4 x);have X7:Hid (∀(w:World)(b8:Nat),w.heap[b8]?=some (.cells #[.i (z:Int),.u 0,.u 0,.u 0,.u 0] 165 (0,0))->∃w',(∀ty,(Builtin.copy_ #[134,9] ty #[.slice (some (Ad b8 1)) 4 4,.t x]).run Tryz.prog w=.ok (goInt x.size) w')∧w'.heap[b8]?=some (.cells #[.i (z:Int),.u (y.a.toNat:Int),.u (y.b.toNat:Int),.u (y.c.toNat:Int),.u (y.d.toNat:Int)] 165 (0,0))∧Fr [b8] w w'):=λw b8 h=>by obtain⟨w',a,b,c⟩:=Nf w b8 z x h hxs;rw[hy]at b;exact⟨w',a,b,c⟩
  rw[hy]at HS;clear hlen hsucc hxs hl hr hz hx hr1 hy HK;go_wp2_with (go_at_call 129;refine Ew.o.mono ?_;rintro e vZ ⟨rfl,PD⟩;have LD:Hid (PK w (vZ.alloc (.cells #[.i (z:Int),.u 0,.u 0,.u 0,.u 0] 165)) bx rb bs r1 fv tv mv nv (.slice fa k fc) l∧PK w vZ bx rb bs r1 fv tv mv nv (.slice fa k fc) l):=⟨PD.alloc _,PD⟩;clear PD);obtain⟨b8,FJ⟩:=eX vZ.heap.size;have H8:Hid ((vZ.alloc (.cells #[.i (z:Int),.u 0,.u 0,.u 0,.u 0] 165)).heap[b8]?=some (.cells #[.i (z:Int),.u 0,.u 0,.u 0,.u 0] 165 (0,0))∧(b8≠bx∧b8≠rb∧b8≠bs)∧(∀k',(Value.slice fa k fc).ownBlock=some k'->k'≠b8)∧w.heap.size≤b8):=by obtain⟨l1,l2,l3,l4⟩:=LD.o.2.Uh;refine⟨by rw[<-FJ];exact di vZ _,⟨by omega,by omega,by omega⟩,λk' hk'=>by have:=l4 k' hk';omega,by rw[<-FJ];exact LD.o.2.pj.fr.size⟩
  rw[FJ];have IQ:Hid (PK w (vZ.alloc (.cells #[.i (z:Int),.u 0,.u 0,.u 0,.u 0] 165)) bx rb bs r1 fv tv mv nv (.slice fa k fc) l):=LD.o.1;obtain⟨wa,nK⟩:=eX (vZ.alloc (.cells #[.i (z:Int),.u 0,.u 0,.u 0,.u 0] 165));rw[nK]at H8 IQ;rw[nK];clear nK FJ LD Ew;go_region_with
   (first
     |(go_at_call 132;refine(uI.o _ IQ.o.drew).mono ?_;rintro e X8 ⟨rfl,Uo,f14⟩;obtain⟨nA,hcp,IU,f15⟩:=X7.o X8 b8 (by rw[f14.block b8 (cY.1 H8.o.1).1 (by simpa using H8.o.2.1.2.1)];exact H8.o.1);have nL:Hid (PK w nA bx rb bs (je r1 4) fv tv mv nv (.slice fa k fc) l∧nA.heap[b8]?=some (.cells #[.i (z:Int),.u (y.a.toNat:Int),.u (y.b.toNat:Int),.u (y.c.toNat:Int),.u (y.d.toNat:Int)] 165 (0,0))):=⟨Uo.other f15 H8.o.2.1 H8.o.2.2.1 H8.o.2.2.2,IU⟩;clear Uo f14 f15 IU))
  all_goals
   clear hcp;have e0:nA.cell? (Ad b8 0)=some (.i (z:Int)):=ce nL.o.2 rfl;have e1:nA.cell? (Ad b8 1)=some (.u (y.a.toNat:Int)):=ce nL.o.2 rfl;have e2:nA.cell? (Ad b8 2)=some (.u (y.b.toNat:Int)):=ce nL.o.2 rfl;have e3:nA.cell? (Ad b8 3)=some (.u (y.c.toNat:Int)):=ce nL.o.2 rfl;have e4:nA.cell? (Ad b8 4)=some (.u (y.d.toNat:Int)):=ce nL.o.2 rfl;have x4:nA.cell? (Ad bs 4)=some (.slice fa k fc):=ce nL.o.1.box rfl;have lbs:bs<nA.heap.size:=dm _ _ x4;have zM:Hid (∀j u,[Value.i (z:Int),.u (y.a.toNat:Int),.u (y.b.toNat:Int),.u (y.c.toNat:Int),.u (y.d.toNat:Int)][j]?=some u->(nA.alloc (.cells #[.i (z:Int),.u (y.a.toNat:Int),.u (y.b.toNat:Int),.u (y.c.toNat:Int),.u (y.d.toNat:Int)] 165)).cell? (((Ad nA.heap.size 0):Addr).add j)=some u):=World.news_of_block (cs:=#[.i (z:Int),.u (y.a.toNat:Int),.u (y.b.toNat:Int),.u (y.c.toNat:Int),.u (y.d.toNat:Int)]) (t:=165) (fr:=(0,0)) (di nA _);have jy:Hid (nA.ownsRow w.heap.size 165 5 (.slice fa k fc) k (jw l)):=by have:=nL.o.1.row;rw[HS.o.2.1]at this;exact this
   have Oj:w.heap.size≤nA.heap.size:=nL.o.1.pj.fr.size;go_wp2_with (at_builtin;refine wpList_append_own _ rfl _ _ 159 rfl w.heap.size 165 i0 _ 5 16 Tryz.underlying159 hi hz0 hz1 hz2 rfl (by omega) (.slice fa k fc) k (jw l) rfl (jy.o.alloc _) (Ad nA.heap.size 0) 1 1 [.i (z:Int),.u (y.a.toNat:Int),.u (y.b.toNat:Int),.u (y.c.toNat:Int),.u (y.d.toNat:Int)] rfl rfl zM.o (by simp[Value.oneCell']) (by unfold maxLen;omega) (by omega) (by simp;omega) ?_;intro v9 w9 aH aJ iR;obtain⟨a9,k9,ni⟩:=ah aH;subst ni;have HP:=(nL.o.1.alloc (.cells #[.i (z:Int),.u (y.a.toNat:Int),.u (y.b.toNat:Int),.u (y.c.toNat:Int),.u (y.d.toNat:Int)] 165)).push (x:=((z:Int),y)) (by rw[HS.o.2.1];exact aH) aJ;have H9:Hid (PK w (w9.setCell (Ad bs 4) (.slice a9 (k+1) k9)) bx rb bs (je r1 4) fv tv mv nv (.slice a9 (k+1) k9) (l++[((z:Int),y)])):=HP.1;have x9:=HP.2.1;have z9:=HP.2.2;clear HP aH aJ iR);go_roundw
   case rel=>exact⟨k+1,_,by omega,by go_num,by rw[HS.o.1];exact H9⟩
   simp[intOf];omega
 have hkk:k=N:=by omega
 subst hkk;rw[HQ.o.1,HQ.o.2]at HK;rw[HQ.o.1]at hlen;have HX:Hid (lL.length=k):=hlen;clear hlen;have y0:W3.cell? (Ad bx 0)=some (.i 0):=by have:=HK.o.pj.box;unfold z116 at this;rw[cell_of this];rfl
 have y1:W3.cell? (Ad bx 1)=some (.i 0):=by have:=HK.o.pj.box;unfold z116 at this;rw[cell_of this];rfl
 have y2:W3.cell? (Ad bx 2)=some (.i 0):=by have:=HK.o.pj.box;unfold z116 at this;rw[cell_of this];rfl
 have y3:W3.cell? (Ad bx 3)=some (.i 0):=by have:=HK.o.pj.box;unfold z116 at this;rw[cell_of this];rfl
 have y4:W3.cell? (Ad bx 4)=some (.slice none 0 0):=by have:=HK.o.pj.box;unfold z116 at this;rw[cell_of this];rfl
 have zz:∀j,W3.frozen? (Ad bx j)=false:=λj=>by have:=HK.o.pj.box;unfold z116 at this;exact ay this j
 have z0:=zz 0;have z1:=zz 1;have z2:=zz 2;have z3:=zz 3;have z4:=zz 4;clear zz;have HE:Hid (Rc 131 #[.p rb] W3 (.bool (decide ((qe ByteArray.empty).1.size=0)&&!(qe ByteArray.empty).2)) λw'=>w'=W3):=pq rb _ _ W3 HK.o.pj.rd;have hbs:w.heap.size≤bx:=Nat.le_of_eq HB.o.2.2.1;have nJ:Hid (∀W a b c' d e,Fr [] w W->Fr [] w (((((W.setCell (Ad bx 0) a).setCell (Ad bx 1) b).setCell (Ad bx 2) c').setCell (Ad bx 3) d).setCell (Ad bx 4) e)):=λW a b c' d e h=>((((h.setCell _ (Or.inr hbs)).setCell _ (Or.inr hbs)).setCell _ (Or.inr hbs)).setCell _ (Or.inr hbs)).setCell _ (Or.inr hbs);cases sg with
 |false=>
  go_wp2;refine ez (v:=.tuple #[jZ,.bool false]) ?_ rfl ⟨rfl,nJ.o _ _ _ _ _ _ HK.o.pj.fr⟩;rw[results_cell_tmp rfl];go_simp;rfl
 |true=>
  exfalso;have h9:=VP.o;rw[ByteArray.toList_eq]at h9;have h8:(dU ByteArray.empty 4).data.toList=[]:=by unfold dU;rw[if_pos (by show 0<4;omega)]
  rw[h8]at h9;cases h9
theorem uQ(t:cC)(w:World)(hz:t.size≤2000000)(ht:22≤t.size)(hs:((t.extract 0 4).toList==[83,78,68,49])=true)(hc:((kE (t.extract 0 (bW t)).data.toList).ba.toList==(t.extract (bW t) t.size).toList)=true)
 (fv tv mv nv:Int)(N:Nat)(e1:fv=(bq (t.extract 4 8).data.toList:Int))(e2:tv=(bq (t.extract 8 12).data.toList:Int))(e3:mv=(bq (t.extract 12 16).data.toList:Int))(e4:nv=(bq (t.extract 16 17).data.toList:Int))(e5:N=bq (t.extract 17 18).data.toList)(hN:N<256)
 (kd:¬(t.size=22+5*N∧¬nv<1∧¬16<nv∧¬tv<1∧¬999999999<tv∧¬999999999<fv∧¬fv=tv∧¬1073741824<mv)):
 Cl 127 #[.t t] w λe w'=>(∃x,e=.returned (.tuple #[.agg x,.bool false])∧wI x)∧Fr [] w w':=by
 have QY:Hid (∀W,Rc 99 #[.t (t.extract 4 8)] W (.i fv) λw'=>w'=W):=λW=>by rw[e1];exact bA _ W (by rw[eo];omega)
 have oF:Hid (∀W,Rc 99 #[.t (t.extract 8 12)] W (.i tv) λw'=>w'=W):=λW=>by rw[e2];exact bA _ W (by rw[eo];omega)
 have Ah:Hid (∀W,Rc 99 #[.t (t.extract 12 16)] W (.i mv) λw'=>w'=W):=λW=>by rw[e3];exact bA _ W (by rw[eo];omega)
 have QZ:Hid (∀W,Rc 99 #[.t (t.extract 16 17)] W (.i nv) λw'=>w'=W):=λW=>by rw[e4];exact bA _ W (by rw[eo];omega)
 have Q5:Hid (∀W,Rc 99 #[.t (t.extract 17 18)] W (.i (N:Int)) λw'=>w'=W):=λW=>by rw[e5];exact bA _ W (by rw[eo];omega)
 obtain⟨T1,hT1⟩:=eX (t.extract 4 8);rw[hT1]at QY;obtain⟨T2,ug⟩:=eX (t.extract 8 12);rw[ug]at oF;obtain⟨T3,VW⟩:=eX (t.extract 12 16);rw[VW]at Ah;obtain⟨T4,zP⟩:=eX (t.extract 16 17);rw[zP]at QZ;obtain⟨T5,VX⟩:=eX (t.extract 17 18);rw[VX]at Q5;have XT:Hid (0≤fv∧0≤nv∧0≤tv∧0≤mv):=by rw[e1,e2,e3,e4];exact⟨by omega,by omega,by omega,by omega⟩
 clear e1 e2 e3 e4 e5;obtain⟨n,hn⟩:=eX t.size;obtain⟨c,hcc⟩:=eX (bW t);have hce:c=n-4:=by rw[<-hcc,<-hn];rfl
 rw[hcc,hn]at hc;have HC:Hid (∀W,Rc 59 #[.t (t.extract 0 c)] W (.t (kE (t.extract 0 c).data.toList).ba) λw'=>Fr [] W w'):=λW=>jr _ W (by rw[eo];omega);obtain⟨ck,hck⟩:=eX (kE (t.extract 0 c).data.toList).ba;rw[hck]at HC hc;rw[hn]at ht hz kd;have h1:decide ((n:Int)<22)=false:=by simp;omega
 have h2:(4:Int)≤(n:Int):=by omega
 have c0:(0:Int)≤(c:Int):=by omega
 have c1:(c:Int)≤(n:Int):=by omega
 have hnc:IntKind.i64.wrap ((n:Int)-4)=(c:Int):=by rw[show(n:Int)-4=(c:Int) by omega];exact aD ⟨by omega,by omega⟩
 obtain⟨bx,hbx⟩:=eX w.heap.size;obtain⟨w0,hw0⟩:=eX ((w.alloc (.cells #[.i 0,.i 0,.i 0,.i 0,.slice none 0 0,.slice none 0 0] 221)).alloc (.cells #[.i 0,.i 0,.i 0,.i 0,.slice none 0 0,.slice none 0 0] 221));have R0:RX w w0 bx 0 0 0 0 (.slice none 0 0) (.slice none 0 0) [] []:=by
  rw[<-hw0,<-hbx];refine⟨(fR.alloc _).alloc _,?_,?_,eA _ _ _ _,eA _ _ _ _,rfl⟩
  .rw[ei _ _ _ (by simp)];exact di w _
  have:=di (w.alloc (.cells #[.i 0,.i 0,.i 0,.i 0,.slice none 0 0,.slice none 0 0] 221)) (.cells #[.i 0,.i 0,.i 0,.i 0,.slice none 0 0,.slice none 0 0] 221);simpa using this
 have xG:=Hd R0;obtain⟨y0,y1,y2,y3,y4,y5⟩:=R0.kQ;have z0:=R0.aY 0;have z1:=R0.aY 1;have z2:=R0.aY 2;have z3:=R0.aY 3;have z4:=R0.aY 4;have z5:=R0.aY 5;obtain⟨x0,x1,x2,x3,x4,x5⟩:=R0.jP;clear R0;have dV:=hw0;clear hw0;have HN:=Hd hn;have b8:(8:Int)≤(n:Int):=by omega
 have b12:(12:Int)≤(n:Int):=by omega
 have b16:(16:Int)≤(n:Int):=by omega
 have b17:(17:Int)≤(n:Int):=by omega
 have b18:(18:Int)≤(n:Int):=by omega
 have p1:IntKind.i64.wrap (5*(N:Int))=5*(N:Int):=aD ⟨by omega,by omega⟩;have p2:IntKind.i64.wrap (22+5*(N:Int))=22+5*(N:Int):=aD ⟨by omega,by omega⟩;clear hck hcc hce;have kd':¬n=22+5*N∨n=22+5*N∧(nv<1∨¬nv<1∧(16<nv∨¬16<nv∧(tv<1∨¬tv<1∧(999999999<tv∨¬999999999<tv∧(999999999<fv∨¬999999999<fv∧(fv=tv∨¬fv=tv∧1073741824<mv)))))):=by omega
 clear kd;rcases kd' with k1|⟨k1,k2|⟨k2,k3|⟨k3,k4|⟨k4,k5|⟨k5,k6|⟨k6,k7|⟨k7,k8⟩⟩⟩⟩⟩⟩⟩;all_goals
  try have d1:((n:Int) != 22+5*(N:Int))=true:=by simp;omega
  try have d1f:((n:Int) != 22+5*(N:Int))=false:=by simp;omega
  try have d2:decide (nv<1)=true:=by simp;omega
  try have d2f:decide (nv<1)=false:=by simp;omega
  try have d3:decide (nv>16)=true:=by simp;omega
  try have d3f:decide (nv>16)=false:=by simp;omega
  try have d4:decide (tv<1)=true:=by simp;omega
  try have d4f:decide (tv<1)=false:=by simp;omega
  try have d5:decide (tv>999999999)=true:=by simp;omega
  try have d5f:decide (tv>999999999)=false:=by simp;omega
  try have d6:decide (fv>999999999)=true:=by simp;omega
  try have d6f:decide (fv>999999999)=false:=by simp;omega
  try have d7:(fv==tv)=true:=by simp;omega
  try have d7f:(fv==tv)=false:=by simp;omega
  try have d8:decide (mv>1073741824)=true:=by simp;omega
  try have d8f:decide (mv>1073741824)=false:=by simp;omega
  try clear k1
  try clear k2
  try clear k3
  try clear k4
  try clear k5
  try clear k6
  try clear k7
  try clear k8
  go_enter Tryz.func127,Tryz.ntmps127;go_wp2;go_region_held3 (λ_=>True)
   (first|trivial|go_keep)
   (first
    |(go_at_call 59;refine(HC.o _).mono ?_;rintro e w5 ⟨rfl,f5⟩;have H5:Hid (RX w w5 bx 0 0 0 0 (.slice none 0 0) (.slice none 0 0) [] []):=xG.o.same (by first|exact f5|exact(Fr.drew fR).trans f5 (by simp)|exact(Fr.drewN fR _).trans f5 (by simp));clear f5))
  all_goals
   have UO:=Hd ((((H5.o.put 0 (.i fv) (f':=fv) (t':=0) (m':=0) (nb':=0) rfl).put 1 (.i tv) (f':=fv) (t':=tv) (m':=0) (nb':=0) rfl).put 2 (.i mv) (f':=fv) (t':=tv) (m':=mv) (nb':=0) rfl).put 3 (.i nv) (f':=fv) (t':=tv) (m':=mv) (nb':=nv) rfl);obtain⟨x0,x1,x2,x3,x4,x5⟩:=H5.o.jP;have xf0:=H5.o.oo 0;have xf1:=H5.o.oo 1;have xf2:=H5.o.oo 2;have xf3:=H5.o.oo 3;clear y0 y1 y2 y3 y4 y5 z0 z1 z2 z3 z4 z5;obtain⟨y0,y1,y2,y3,y4,y5⟩:=H5.o.kQ;have z0:=H5.o.aY 0;have z1:=H5.o.aY 1;have z2:=H5.o.aY 2;have z3:=H5.o.aY 3;have z4:=H5.o.aY 4;have z5:=H5.o.aY 5;go_wp2_with (first
    |(go_at_call_of 99 (Value.string T1);refine(QY.o _).mono ?_;rintro e w' ⟨rfl,hw'⟩;subst w')
    |(go_at_call_of 99 (Value.string T2);refine(oF.o _).mono ?_;rintro e w' ⟨rfl,hw'⟩;subst w')
    |(go_at_call_of 99 (Value.string T3);refine(Ah.o _).mono ?_;rintro e w' ⟨rfl,hw'⟩;subst w')
    |(go_at_call_of 99 (Value.string T4);refine(QZ.o _).mono ?_;rintro e w' ⟨rfl,hw'⟩;subst w')
    |(go_at_call_of 99 (Value.string T5);refine(Q5.o _).mono ?_;rintro e w' ⟨rfl,hw'⟩;subst w'))
   refine ez (v:=.tuple #[.agg #[.i fv,.i tv,.i mv,.i nv,.slice none 0 0,.slice none 0 0],.bool false]) ?_ rfl ⟨⟨_,rfl,six⟩,?_⟩
   .rw[results_cell_tmp rfl];go_simp
   refine UO.o.wQ ?_ _ _ _ _ _ _;first|exact fR|exact fR.drew|exact fR.drewN _
theorem RX.rows{w W W':World}{bx:Nat}{f t m nb:Int}{vN vD:Value}{N:Nat}{L:List (Int×B4)}(h:RX w W bx f t m nb vN vD (L.map Prod.fst) (L.map λx=>x.2.ba))(hf:Fr [] W W')(hl:L.length=N)(a b c d e g:Value):
 ((((((W'.setCell (Ad bx 0) a).setCell (Ad bx 1) b).setCell (Ad bx 2) c).setCell (Ad bx 3) d).setCell (Ad bx 4) e).setCell (Ad bx 5) g).ownsRow w.heap.size 3 1 vN N (L.map λx=>Value.i x.1)∧((((((W'.setCell (Ad bx 0) a).setCell (Ad bx 1) b).setCell (Ad bx 2) c).setCell (Ad bx 3) d).setCell (Ad bx 4) e).setCell (Ad bx 5) g).ownsRow w.heap.size 9 1 vD N (L.map λx=>Value.t x.2.ba):=by
 have h2:=h.same hf;obtain⟨a1,a2,_⟩:=h2.far;have n1:=h2.nr;have d1:=h2.dr;rw[eI,hl,List.map_map]at n1 d1;refine⟨aj n1 (λk hk=>?_),aj d1 (λk hk=>?_)⟩
 .have hne:=(a1 k hk).1;rw[de _ _ _ _ hne,de _ _ _ _ hne,de _ _ _ _ hne,de _ _ _ _ hne,de _ _ _ _ hne,de _ _ _ _ hne]
 have hne:=(a2 k hk).1;rw[de _ _ _ _ hne,de _ _ _ _ hne,de _ _ _ _ hne,de _ _ _ _ hne,de _ _ _ _ hne,de _ _ _ _ hne]
theorem sG(t:cC)(w:World)(hz:t.size≤2000000)(ht:22≤t.size)(hs:((t.extract 0 4).toList==[83,78,68,49])=true)(hc:((kE (t.extract 0 (bW t)).data.toList).ba.toList==(t.extract (bW t) t.size).toList)=true)
 (fv tv mv nv:Int)(N:Nat)(e1:fv=(bq (t.extract 4 8).data.toList:Int))(e2:tv=(bq (t.extract 8 12).data.toList:Int))(e3:mv=(bq (t.extract 12 16).data.toList:Int))(e4:nv=(bq (t.extract 16 17).data.toList:Int))(e5:N=bq (t.extract 17 18).data.toList)(hN:N<256)
 (hsz:t.size=22+5*N)(jR:1≤nv∧nv≤16)(oI:1≤tv∧tv≤999999999)(IK:0≤fv∧fv≤999999999)(hft:fv≠tv)(hmv:mv≤1073741824)(ok:Bool)(hok:ok=true↔iD nv (FI t N)∧(fv≠0∨(N:Int)=nv)):
 Cl 127 #[.t t] w λe w'=>(ok=false->∃x,e=.returned (.tuple #[.agg x,.bool false])∧wI x)∧(ok=true->∃vN vD,e=.returned (.tuple #[.agg #[.i fv,.i tv,.i mv,.i nv,vN,vD],.bool true])∧w'.ownsRow w.heap.size 3 1 vN N ((FI t N).map λx=>Value.i x.1)∧w'.ownsRow w.heap.size 9 1 vD N ((FI t N).map λx=>Value.t x.2.ba))∧Fr [] w w':=by
 have QY:Hid (∀W,Rc 99 #[.t (t.extract 4 8)] W (.i fv) λw'=>w'=W):=λW=>by rw[e1];exact bA _ W (by rw[eo];omega)
 have oF:Hid (∀W,Rc 99 #[.t (t.extract 8 12)] W (.i tv) λw'=>w'=W):=λW=>by rw[e2];exact bA _ W (by rw[eo];omega)
 have Ah:Hid (∀W,Rc 99 #[.t (t.extract 12 16)] W (.i mv) λw'=>w'=W):=λW=>by rw[e3];exact bA _ W (by rw[eo];omega)
 have QZ:Hid (∀W,Rc 99 #[.t (t.extract 16 17)] W (.i nv) λw'=>w'=W):=λW=>by rw[e4];exact bA _ W (by rw[eo];omega)
 have Q5:Hid (∀W,Rc 99 #[.t (t.extract 17 18)] W (.i (N:Int)) λw'=>w'=W):=λW=>by rw[e5];exact bA _ W (by rw[eo];omega)
 obtain⟨T1,hT1⟩:=eX (t.extract 4 8);rw[hT1]at QY;obtain⟨T2,ug⟩:=eX (t.extract 8 12);rw[ug]at oF;obtain⟨T3,VW⟩:=eX (t.extract 12 16);rw[VW]at Ah;obtain⟨T4,zP⟩:=eX (t.extract 16 17);rw[zP]at QZ;obtain⟨T5,VX⟩:=eX (t.extract 17 18);rw[VX]at Q5;have XT:Hid (0≤fv∧0≤nv∧0≤tv∧0≤mv):=by rw[e1,e2,e3,e4];exact⟨by omega,by omega,by omega,by omega⟩
 clear e1 e2 e3 e4 e5;obtain⟨n,hn⟩:=eX t.size;obtain⟨c,hcc⟩:=eX (bW t);have hce:c=n-4:=by rw[<-hcc,<-hn];rfl
 rw[hcc,hn]at hc;have HC:Hid (∀W,Rc 59 #[.t (t.extract 0 c)] W (.t (kE (t.extract 0 c).data.toList).ba) λw'=>Fr [] W w'):=λW=>jr _ W (by rw[eo];omega);obtain⟨ck,hck⟩:=eX (kE (t.extract 0 c).data.toList).ba;rw[hck]at HC hc;rw[hn]at ht hz hsz;have h1:decide ((n:Int)<22)=false:=by simp;omega
 have h2:(4:Int)≤(n:Int):=by omega
 have c0:(0:Int)≤(c:Int):=by omega
 have c1:(c:Int)≤(n:Int):=by omega
 have hnc:IntKind.i64.wrap ((n:Int)-4)=(c:Int):=by rw[show(n:Int)-4=(c:Int) by omega];exact aD ⟨by omega,by omega⟩
 obtain⟨bx,hbx⟩:=eX w.heap.size;obtain⟨w0,hw0⟩:=eX ((w.alloc (.cells #[.i 0,.i 0,.i 0,.i 0,.slice none 0 0,.slice none 0 0] 221)).alloc (.cells #[.i 0,.i 0,.i 0,.i 0,.slice none 0 0,.slice none 0 0] 221));have R0:RX w w0 bx 0 0 0 0 (.slice none 0 0) (.slice none 0 0) [] []:=by
  rw[<-hw0,<-hbx];refine⟨(fR.alloc _).alloc _,?_,?_,eA _ _ _ _,eA _ _ _ _,rfl⟩
  .rw[ei _ _ _ (by simp)];exact di w _
  have:=di (w.alloc (.cells #[.i 0,.i 0,.i 0,.i 0,.slice none 0 0,.slice none 0 0] 221)) (.cells #[.i 0,.i 0,.i 0,.i 0,.slice none 0 0,.slice none 0 0] 221);simpa using this
 have xG:=Hd R0;obtain⟨y0,y1,y2,y3,y4,y5⟩:=R0.kQ;have z0:=R0.aY 0;have z1:=R0.aY 1;have z2:=R0.aY 2;have z3:=R0.aY 3;have z4:=R0.aY 4;have z5:=R0.aY 5;obtain⟨x0,x1,x2,x3,x4,x5⟩:=R0.jP;clear R0;have dV:=hw0;clear hw0;have HN:=Hd hn;have b8:(8:Int)≤(n:Int):=by omega
 have b12:(12:Int)≤(n:Int):=by omega
 have b16:(16:Int)≤(n:Int):=by omega
 have b17:(17:Int)≤(n:Int):=by omega
 have b18:(18:Int)≤(n:Int):=by omega
 have p1:IntKind.i64.wrap (5*(N:Int))=5*(N:Int):=aD ⟨by omega,by omega⟩;have p2:IntKind.i64.wrap (22+5*(N:Int))=22+5*(N:Int):=aD ⟨by omega,by omega⟩;clear hck hcc hce;have d1:((n:Int) != 22+5*(N:Int))=false:=by simp;omega
 have d2:decide (nv<1)=false:=by simp;omega
 have d3:decide (nv>16)=false:=by simp;omega
 have d4:decide (tv<1)=false:=by simp;omega
 have d5:decide (tv>999999999)=false:=by simp;omega
 have d6:decide (fv>999999999)=false:=by simp;omega
 have d7:(fv==tv)=false:=by simpa using hft
 have d8:decide (mv>1073741824)=false:=by simp;omega
 have Q6:=Hd hok;have PZ:=Hj3 jR hsz hn;obtain⟨L,hL⟩:=eX (FI t N);have hLl:L.length=N:=by rw[<-hL];simp[FI]
 have HL:=Hj2 hL hLl;rw[hL]at Q6;rw[hL];clear hok hL hLl hsz hft hmv oI;obtain⟨i0,hi,hz0,hz1,hz2⟩:=info_parts info3;obtain⟨j0,hj,Yn,jz1,Yo⟩:=info_parts Gg;go_enter Tryz.func127,Tryz.ntmps127;go_wp2;go_region_held3 (λ_=>True)
  (first|trivial|go_keep)
  (first
    |(go_at_call 59;refine(HC.o _).mono ?_;rintro e w5 ⟨rfl,f5⟩;have H5:Hid (RX w w5 bx 0 0 0 0 (.slice none 0 0) (.slice none 0 0) [] []):=xG.o.same (by first|exact f5|exact(Fr.drew fR).trans f5 (by simp)|exact(Fr.drewN fR _).trans f5 (by simp));clear f5))
 all_goals
  have UO:=Hd ((((H5.o.put 0 (.i fv) (f':=fv) (t':=0) (m':=0) (nb':=0) rfl).put 1 (.i tv) (f':=fv) (t':=tv) (m':=0) (nb':=0) rfl).put 2 (.i mv) (f':=fv) (t':=tv) (m':=mv) (nb':=0) rfl).put 3 (.i nv) (f':=fv) (t':=tv) (m':=mv) (nb':=nv) rfl);obtain⟨x0,x1,x2,x3,x4,x5⟩:=H5.o.jP;have xf0:=H5.o.oo 0;have xf1:=H5.o.oo 1;have xf2:=H5.o.oo 2;have xf3:=H5.o.oo 3;clear y0 y1 y2 y3 y4 y5 z0 z1 z2 z3 z4 z5;obtain⟨y0,y1,y2,y3,y4,y5⟩:=H5.o.kQ;have z0:=H5.o.aY 0;have z1:=H5.o.aY 1;have z2:=H5.o.aY 2;have z3:=H5.o.aY 3;have z4:=H5.o.aY 4;have z5:=H5.o.aY 5;go_wp2_with (first
   |(go_at_call_of 99 (Value.string T1);refine(QY.o _).mono ?_;rintro e w' ⟨rfl,hw'⟩;subst w')
   |(go_at_call_of 99 (Value.string T2);refine(oF.o _).mono ?_;rintro e w' ⟨rfl,hw'⟩;subst w')
   |(go_at_call_of 99 (Value.string T3);refine(Ah.o _).mono ?_;rintro e w' ⟨rfl,hw'⟩;subst w')
   |(go_at_call_of 99 (Value.string T4);refine(QZ.o _).mono ?_;rintro e w' ⟨rfl,hw'⟩;subst w')
   |(go_at_call_of 99 (Value.string T5);refine(Q5.o _).mono ?_;rintro e w' ⟨rfl,hw'⟩;subst w'))
  obtain⟨W9,vF⟩:=eX ((((w5.setCell (Ad (bx+1) 0) (.i fv)).setCell (Ad (bx+1) 1) (.i tv)).setCell (Ad (bx+1) 2) (.i mv)).setCell (Ad (bx+1) 3) (.i nv));rw[vF]at UO;rw[vF];have H9:=Hd UO;clear UO vF xf0 xf1 xf2 xf3 x0 x1 x2 x3 x4 x5 y0 y1 y2 y3 y4 y5 z0 z1 z2 z3 z4 z5 H5 QY oF Ah QZ Q5 hT1 ug VW zP VX d1 d2 d3 d4 d5 d6 d7 d8 hc hs h1 h2 c0 c1 hnc b8 b12 b16 b17 b18 p1 p2;go_loopw [6,7] (λla i wr=>∃(k:Nat)(vN vD:Value),k≤N∧i=.i k∧la=.i (least L k-1)∧Hid (RX w wr bx fv tv mv nv vN vD ((L.take k).map Prod.fst) ((L.take k).map λx=>x.2.ba)∧∀j(h:j<L.length),j<k->least L j≤L[j].1∧L[j].1<nv)) (λ_ i _=>N-(intOf i).toNat)
  case atStart=>exact⟨0,_,_,dC _,rfl,rfl,H9.o,λj _ h=>absurd h (Nat.not_lt_zero _)⟩
  obtain⟨k,vN,vD,hk,rfl,rfl,HK⟩:=hrel;obtain⟨W3,hW3⟩:=eY wr;subst hW3;have H3:=Hd HK.o.1;have Kv:=Hd HK.o.2;clear HK H9;obtain⟨y0,y1,y2,y3,y4,y5⟩:=H3.o.kQ;have z0:=H3.o.aY 0;have z1:=H3.o.aY 1;have z2:=H3.o.aY 2;have z3:=H3.o.aY 3;have z4:=H3.o.aY 4;have z5:=H3.o.aY 5;obtain⟨x0,x1,x2,x3,x4,x5⟩:=H3.o.jP;by_cases hlt:k<N
  .have hltz:(k:Int)<(N:Int):=by omega
   have hll:k<L.length:=by rw[HL.o.2];exact hlt
   obtain⟨x,hx⟩:=eX L[k];obtain⟨r,hr⟩:=eX (t.extract (18+5*k) (23+5*k));have hrs:r.size=5:=by rw[<-hr,eo];have:=PZ.o.2;omega
   have Yp:x=((ZY t k:Int),b4 (JX t k)):=by rw[<-hx];simp only[<-HL.o.1,FI,List.getElem_map,List.getElem_range]
   have hx1:x.1=(bq (r.extract 0 1).data.toList:Int):=by rw[Yp,<-hr];rfl
   have hx2:x.2.ba=r.extract 1 5:=by rw[Yp];show(b4 (JX t k)).ba=_;rw[Ul (IJ t k (by have:=PZ.o.2;omega))];unfold JX;rw[hr,hrs]
   obtain⟨xn,hxn⟩:=eX x.1;obtain⟨xd,hxd⟩:=eX x.2.ba;obtain⟨r1,hr1⟩:=eX (r.extract 0 1);have Yq:Hid (∀W,Rc 99 #[.t r1] W (.i xn) λw'=>w'=W):=λW=>by rw[<-hxn,hx1,hr1];exact bA _ W (by rw[<-hr1,eo];omega)
   have hr5:r.extract 1 5=xd:=by rw[<-hx2,hxd]
   have hxb:0≤xn∧xn<256:=by
    rw[<-hxn,hx1];have h9:=kM (r.extract 0 1).data.toList (r.extract 0 1).data.toList.length (eh _);rw[kf]at h9;have h8:(r.extract 0 1).data.toList.length=1:=by rw[fk];show(r.extract 0 1).size=1;rw[eo];omega
    rw[h8]at h9;omega
   have hsx:least L (k+1)=xn+1:=by rw[dY L k hll,hx,hxn]
   obtain⟨z,hzz⟩:=eX (least L k);have yh:=Hj5 hx hxn hxd hzz hsx;have hlz:-1000≤z∧z≤1000:=by
    rw[<-hzz];cases k with
    |zero=>exact⟨by show(-1000:Int)≤0;omega,by show(0:Int)≤1000;omega⟩
    |succ k'=>
     have h1:=Kv.o k' (by omega) (by omega);have h2:=PZ.o.1;rw[dY L k' (by omega)];refine⟨?_,by omega⟩;have:0≤L[k'].1:=by simp only[<-HL.o.1,FI,List.getElem_map,List.getElem_range];omega
     omega
   obtain⟨a,ha⟩:=eX (18+5*k);obtain⟨b',hb'⟩:=eX (23+5*k);have w1:IntKind.i64.wrap (5*(k:Int))=5*(k:Int):=aD ⟨by omega,by omega⟩;have w2:IntKind.i64.wrap (18+5*(k:Int))=(a:Int):=by rw[show 18+5*(k:Int)=(a:Int) by omega];exact aD ⟨by omega,by omega⟩
   have w3:IntKind.i64.wrap (23+5*(k:Int))=(b':Int):=by rw[show 23+5*(k:Int)=(b':Int) by omega];exact aD ⟨by omega,by omega⟩
   have g0:(0:Int)≤(a:Int):=by omega
   have g1:(a:Int)≤(b':Int):=by omega
   have g2:(b':Int)≤(n:Int):=by have:=PZ.o.2;omega
   rw[ha,hb']at hr;rw[hzz];have UQ:(L.take k).length=k:=by rw[eM];omega
   have Mt:Hid ((L.take k).length=k∧L.take (k+1)=L.take k++[x]):=⟨UQ,by rw[ew hll,hx]⟩;clear hx Yp hx1 hx2 hxn hxd hzz hsx ha hb' UQ;obtain⟨na,nc,uV⟩:=ah H3.o.nr;obtain⟨da,dc,uW⟩:=ah H3.o.dr;rw[eI,Mt.o.1]at uV uW;subst uV;subst uW;by_cases r1':xn≤z-1
   .have q1:decide (xn≤z-1)=true:=by simpa using r1'
    have HBAD:Hid (¬iD nv L):=λhR=>by
     have hll:k<L.length:=by rw[HL.o.2];exact hlt
     have h8:=(hR k hll).1;rw[yh.o.1,yh.o.2.1,yh.o.2.2.2.1]at h8;omega
    clear r1';go_wp2_with (go_at_call 99;refine(Yq.o _).mono ?_;rintro e w' ⟨rfl,hw'⟩;subst w');have Jg:ok=false:=by cases ok;rfl;exact absurd (Q6.o.1 rfl).1 HBAD.o
    subst Jg;refine ez (v:=.tuple #[.agg #[.i fv,.i tv,.i mv,.i nv,.slice na k nc,.slice da k dc],.bool false]) ?_ rfl ⟨λ_=>⟨_,rfl,six⟩,λh=>(by cases h),?_⟩
    .rw[results_cell_tmp rfl];go_simp
    refine H3.o.wQ ?_ _ _ _ _ _ _;first|exact fR|exact fR.drew|exact fR.drewN _
   have q1:decide (xn≤z-1)=false:=by simpa using r1'
   have HR1:=Hd r1';clear r1';by_cases r2':nv≤xn
   .have q2:decide (xn≥nv)=true:=by simpa using r2'
    have HBAD:Hid (¬iD nv L):=λhR=>by
     have hll:k<L.length:=by rw[HL.o.2];exact hlt
     have h8:=(hR k hll).2;rw[yh.o.1,yh.o.2.1]at h8;omega
    clear r2';go_wp2_with (go_at_call 99;refine(Yq.o _).mono ?_;rintro e w' ⟨rfl,hw'⟩;subst w');have Jg:ok=false:=by cases ok;rfl;exact absurd (Q6.o.1 rfl).1 HBAD.o
    subst Jg;refine ez (v:=.tuple #[.agg #[.i fv,.i tv,.i mv,.i nv,.slice na k nc,.slice da k dc],.bool false]) ?_ rfl ⟨λ_=>⟨_,rfl,six⟩,λh=>(by cases h),?_⟩
    .rw[results_cell_tmp rfl];go_simp
    refine H3.o.wQ ?_ _ _ _ _ _ _;first|exact fR|exact fR.drew|exact fR.drewN _
   have q2:decide (xn≥nv)=false:=by simpa using r2'
   have HR2:=Hd r2';clear r2';have hsz:=H3.o.fr.size;have Ru:Hid (W3.ownsRow w.heap.size 3 1 (.slice na k nc) k (((L.take k).map Prod.fst).map (Value.int .i64))):=by have h9:=H3.o.nr;rw[eI,Mt.o.1]at h9;exact h9
   clear y0 y1 y2 y3 y4 y5 z0 z1 z2 z3 z4 z5;go_wp2_with (first
    |(go_at_call 99;refine(Yq.o _).mono ?_;rintro e w' ⟨rfl,hw'⟩;subst w')
    |(at_builtin;refine wpList_append_own _ rfl _ _ 30 rfl w.heap.size 3 i0 _ 1 8 Tryz.underlying30 hi hz0 hz1 hz2 rfl (by omega) (.slice na k nc) k (((L.take k).map Prod.fst).map (Value.int .i64)) rfl (Ru.o.alloc _) (Ad W3.heap.size 0) 1 1 [.i xn] rfl (by simp) (World.news_of_block (cs:=#[.i xn]) (t:=3) (fr:=(0,0)) (di W3 _)) (by simp[Value.oneCell']) (by unfold maxLen;omega) (by omega) (by simp;omega) ?_;intro v9 w9 aH aJ iR;have HP:=(H3.o.same (fR.alloc (.cells #[.i xn] 3))).UM (z:=xn) (by rw[eI,Mt.o.1];exact aH) aJ;obtain⟨iM,iN,ni⟩:=ah aH;subst ni;have H8:=Hd HP.1;have HRD:Hid ((w9.setCell (Ad (bx+1) 4) (.slice iM (k+1) iN)).ownsRow w.heap.size 9 1 (.slice da k dc) k (((L.take k).map λx=>x.2.ba).map Value.string)):=by have h9:=H8.o.dr;rw[eI,Mt.o.1]at h9;exact h9
      have LB:=H8.o.fr.size;have x94:=HP.2.1;have z94:=HP.2.2;have x85:=H8.o.jP.2.2.2.2.2;have z85:=H8.o.oo 5;clear HP aH aJ iR))
   obtain⟨W8,UR⟩:=eX (w9.setCell (Ad (bx+1) 4) (.slice iM (k+1) iN));rw[UR]at H8 HRD x85 z85 LB;rw[UR];have l8:bx+1<W8.heap.size:=dm _ _ x85;clear UR x94 z94 H3 x0 x1 x2 x3 x4 x5 q1 q2;go_region_law
    ((refine step_append_lies _ (by rfl) _ _ _ (by rfl) w.heap.size 9 j0 _ 1 16 Tryz.underlying34 hj Yn jz1 Yo rfl (by omega) (.slice da k dc) k (((L.take k).map λx=>x.2.ba).map Value.string) (by rfl) ((HRD.o.alloc _).drew) (Ad W8.heap.size 0) 1 1 [.t xd] (by rfl) (by rfl) (World.news_of_block (cs:=#[.t xd]) (t:=9) (fr:=(0,0)) (di W8 _)) (by simp[Value.oneCell']) (by omega) (by unfold maxLen;omega) (by omega) (by simp;omega) (W8.heap.size+1) (by simp) ?_;intro g10 zu gV cK eT UU UW;have HP:=(H8.o.same (fR.alloc (.cells #[.t xd] 9)).drew).UN (z:=xd) (by rw[eI,Mt.o.1];exact cK) eT;have kW:=Hd HP.1;have x105:=HP.2.1;have z105:=HP.2.2;clear HP cK eT UU UW))
   all_goals go_wp2
   all_goals
    go_roundw
    case rel=>
     refine⟨k+1,.slice iM (k+1) iN,.slice (some (Ad g10 0)) (k+1) zu,by omega,by go_num,?_,?_,?_⟩
     .rw[yh.o.2.2.2.2];congr 1;omega
     .rw[Mt.o.2,fj,fj];have h9:=kW.o;rw[<-yh.o.2.1,<-yh.o.2.2.1]at h9;exact h9
     intro j hj hjk;rcases Nat.lt_succ_iff_lt_or_eq.1 hjk with h1|h1
     .exact Kv.o j hj h1
     subst h1;rw[yh.o.1,yh.o.2.1,yh.o.2.2.2.1];have h2:=HR1.o;have h3:=HR2.o;omega
    simp[intOf];omega
  have hkk:k=N:=by omega
  subst hkk;have HRI:=Hd λj hj=>Kv.o j hj (by have:=HL.o.2;omega);by_cases hf0:fv=0
  .have q1:(fv != 0)=false:=by simpa using hf0
   have p8:=Hd hf0;clear hf0;obtain⟨na,nc,uV⟩:=ah H3.o.nr;obtain⟨da,dc,uW⟩:=ah H3.o.dr;have htk:L.take k=L:=eL (by have:=HL.o.2;omega);have H4:Hid (RX w W3 bx fv tv mv nv vN vD (L.map Prod.fst) (L.map λx=>x.2.ba)):=by have h9:=H3.o;rw[htk]at h9;exact h9
   have hlk:=HL.o.2;rw[eI,htk,hlk]at uV uW;subst uV;subst uW;clear htk hlk;by_cases hnn:(k:Int)=nv
   .have q2:((k:Int)==nv)=true:=by simpa using hnn
    have P8:ok=true:=Q6.o.2 ⟨HRI.o,Or.inr hnn⟩;subst P8;clear hnn;go_wp2;go_region;all_goals go_wp2
    all_goals
     refine ez (v:=.tuple #[.agg #[.i fv,.i tv,.i mv,.i nv,.slice na k nc,.slice da k dc],.bool true]) ?_ rfl ⟨⟨_,_,rfl,?_,?_⟩,?_⟩
     .rw[results_cell_tmp rfl];go_simp
     .have h9:=bD (H4.o.rows fR HL.o.2 (.i fv) (.i tv) (.i mv) (.i nv) (.slice na k nc) (.slice da k dc)).1 fR.drew;rw[H4.o.ge]at h9;exact h9
     .have h9:=bD (H4.o.rows fR HL.o.2 (.i fv) (.i tv) (.i mv) (.i nv) (.slice na k nc) (.slice da k dc)).2 fR.drew;rw[H4.o.ge]at h9;exact h9
     exact(H4.o.wQ fR (.i fv) (.i tv) (.i mv) (.i nv) (.slice na k nc) (.slice da k dc)).drew
   have q2:((k:Int)==nv)=false:=by simpa using hnn
   have Jg:ok=false:=by
    cases ok
    .rfl
    exfalso;have h9:=(Q6.o.1 rfl).2;have h8:=p8.o;omega
   subst Jg;clear hnn;go_wp2;go_region;all_goals go_wp2
   all_goals
    refine ez (v:=.tuple #[.agg #[.i fv,.i tv,.i mv,.i nv,.slice na k nc,.slice da k dc],.bool false]) ?_ rfl ⟨⟨_,rfl,six⟩,?_⟩
    .rw[results_cell_tmp rfl];go_simp
    exact(H4.o.wQ fR (.i fv) (.i tv) (.i mv) (.i nv) (.slice na k nc) (.slice da k dc)).drew
  have q1:(fv != 0)=true:=by simpa using hf0
  have P8:ok=true:=Q6.o.2 ⟨HRI.o,Or.inl hf0⟩;subst P8;clear hf0;obtain⟨na,nc,uV⟩:=ah H3.o.nr;obtain⟨da,dc,uW⟩:=ah H3.o.dr;have htk:L.take k=L:=eL (by have:=HL.o.2;omega);have H4:Hid (RX w W3 bx fv tv mv nv vN vD (L.map Prod.fst) (L.map λx=>x.2.ba)):=by have h9:=H3.o;rw[htk]at h9;exact h9
  have hlk:=HL.o.2;rw[eI,htk,hlk]at uV uW;subst uV;subst uW;clear htk hlk;go_wp2;go_region;all_goals go_wp2
  all_goals
   refine ez (v:=.tuple #[.agg #[.i fv,.i tv,.i mv,.i nv,.slice na k nc,.slice da k dc],.bool true]) ?_ rfl ⟨⟨_,_,rfl,?_,?_⟩,?_⟩
   .rw[results_cell_tmp rfl];go_simp
   .have h9:=bD (H4.o.rows fR HL.o.2 (.i fv) (.i tv) (.i mv) (.i nv) (.slice na k nc) (.slice da k dc)).1 fR.drew;rw[H4.o.ge]at h9;exact h9
   .have h9:=bD (H4.o.rows fR HL.o.2 (.i fv) (.i tv) (.i mv) (.i nv) (.slice na k nc) (.slice da k dc)).2 fR.drew;rw[H4.o.ge]at h9;exact h9
   exact(H4.o.wQ fR (.i fv) (.i tv) (.i mv) (.i nv) (.slice na k nc) (.slice da k dc)).drew
theorem sF(r:RS):∀k,∀x∈(eu r k).1,0≤x.1∧x.1<256
 |0,x,hx=>by simp[eu]at hx
 |k+1,x,hx=>by
  rw[pz]at hx;rcases dT.1 hx with hx|hx
  .exact sF r k x hx
  have e:=j8.1 hx;rw[e];have:=nZ (dU (eu r k).2.1 1) (gK _ 1);show 0≤((bq (dU (eu r k).2.1 1).data.toList:Nat):Int)∧((bq (dU (eu r k).2.1 1).data.toList:Nat):Int)<256;omega
structure yZ(tx:cC)(f t m:Int)(nb:Nat)(l:List (Int×B4)):Prop where
 may:Ag f t m nb l
 size:tx.size=22+5*l.length
 len:l.length≤16
 m0:0≤m
 tv:t=(bq (tx.extract 8 12).data.toList:Int)
theorem Ez(tx:cC)(hz:tx.size≤2000000):
 (∃f t m nb l,yZ tx f t m nb l∧(∀W,Cl 125 #[.t tx] W λe w'=>∃v,e=.returned (.tuple #[.agg #[.i f,.i t,.i m,.i (nb:Int),v],.bool true])∧w'.ownsRow W.heap.size 165 5 v l.length (jw l)∧Fr [] W w')∧∀W,Cl 127 #[.t tx] W λe w'=>∃vN vD,e=.returned (.tuple #[.agg #[.i f,.i t,.i m,.i (nb:Int),vN,vD],.bool true])∧w'.ownsRow W.heap.size 3 1 vN l.length (l.map λx=>Value.i x.1)∧w'.ownsRow W.heap.size 9 1 vD l.length (l.map λx=>Value.t x.2.ba)∧Fr [] W w')∨
 ((∀W,Rc 125 #[.t tx] W (.tuple #[jZ,.bool false]) λw'=>Fr [] W w')∧∀W,Cl 127 #[.t tx] W λe w'=>(∃x,e=.returned (.tuple #[.agg x,.bool false])∧wI x)∧Fr [] W w'):=by
 obtain⟨u,hu⟩:=eX (tx.extract 0 (bW tx));have PE:u.size=tx.size-4:=by rw[<-hu,eo];unfold bW;omega
 have Z4:(ql u).length=qn u:=by unfold ql;exact nY _ _
 have Cz:qn u<256:=by unfold qn;exact nZ _ (gK _ 1)
 have hsm:∀x∈ql u,0≤x.1∧x.1<256:=λx hx=>by unfold ql at hx;exact sF _ _ x hx
 have prog:∀(mb ok:Bool),(mb=true↔Ag (qf u) (qt u) (qm u) (qb u) (ql u))->(ok=true↔dU u 4=⟨#[83,78,68,49]⟩∧(qe u).2=false∧(qe u).1.size=0∧mb=true)->5≤tx.size->((tx.extract (bW tx) tx.size).toList==(kE u.data.toList).ba.toList)=true->∀W,Cl 125 #[.t tx] W λe w'=>(ok=false->e=.returned (.tuple #[jZ,.bool false]))∧(ok=true->∃v,e=.returned (.tuple #[.agg #[.i (qf u:Int),.i (qt u:Int),.i (qm u:Int),.i (qb u:Int),v],.bool true])∧w'.ownsRow W.heap.size 165 5 v (ql u).length (jw (ql u)))∧Fr [] W w':=λmb ok hmb hok h5 hc W=>by have h8:=Ey tx W hz h5 (by rw[hu];exact hc) ok mb (by rw[hu];exact hok) (by rw[hu];intro W' v ho;exact D5 (qf u) (qt u) (qm u) (qb u) (ql u) v _ W' ho (by omega) (by omega) hsm mb hmb);rw[hu]at h8;exact h8
 have no:∀(_:5≤tx.size)(_:((tx.extract (bW tx) tx.size).toList==(kE u.data.toList).ba.toList)=true),¬(dU u 4=⟨#[83,78,68,49]⟩∧(qe u).2=false∧(qe u).1.size=0∧Ag (qf u) (qt u) (qm u) (qb u) (ql u))->∀W,Rc 125 #[.t tx] W (.tuple #[jZ,.bool false]) λw'=>Fr [] W w':=λh5 hc hn W=>by
  by_cases hM:Ag (qf u) (qt u) (qm u) (qb u) (ql u)
  .exact(prog true false ⟨λ_=>hM,λ_=>rfl⟩ ⟨λh=>(by cases h),λh=>absurd ⟨h.1,h.2.1,h.2.2.1,hM⟩ hn⟩ h5 hc W).mono λe w'⟨a,_,c⟩=>⟨a rfl,c⟩
  exact(prog false false ⟨λh=>(by cases h),λh=>absurd h hM⟩ ⟨λh=>(by cases h),λh=>(by cases h.2.2.2)⟩ h5 hc W).mono λe w'⟨a,_,c⟩=>⟨a rfl,c⟩
 by_cases h22:22≤tx.size
 .obtain⟨a0,a1,a2,a3,a4,a5,a6⟩:=Pv tx h22;rw[hu]at a0 a1 a2 a3 a4 a5 a6;by_cases hc:((tx.extract (bW tx) tx.size).toList==(kE u.data.toList).ba.toList)=true
  .have hc':((kE (tx.extract 0 (bW tx)).data.toList).ba.toList==(tx.extract (bW tx) tx.size).toList)=true:=by rw[hu,zh];exact hc
   by_cases hs:((tx.extract 0 4).toList==[83,78,68,49])=true
   .have hs':dU u 4=⟨#[83,78,68,49]⟩:=by rw[a0];rw[ByteArray.toList_eq]at hs;refine gG ?_;simpa using hs
    by_cases hsz:tx.size=22+5*qn u
    .obtain⟨b1,b2,b3⟩:=a6 hsz;by_cases hM:Ag (qf u) (qt u) (qm u) (qb u) (ql u)
     .left;obtain⟨m1,m2,m3,m4,m5,m6,m7⟩:=hM;have hle:=yj m7 (by omega);refine⟨qf u,qt u,qm u,qb u,ql u,⟨⟨m1,m2,m3,m4,m5,m6,m7⟩,by rw[Z4];exact hsz,by omega,by omega,by rw[a2]⟩,λW=>?_,λW=>?_⟩
      .exact(prog true true ⟨λ_=>⟨m1,m2,m3,m4,m5,m6,m7⟩,λ_=>rfl⟩ ⟨λ_=>⟨hs',b1,b2,rfl⟩,λ_=>rfl⟩ (by omega) hc W).mono λe w'⟨_,a,c⟩=>by obtain⟨v,e1,e2⟩:=a rfl;exact⟨v,e1,e2,c⟩
      have h8:=sG tx W hz h22 hs hc' (qf u) (qt u) (qm u) (qb u) (qn u) (by rw[a1]) (by rw[a2]) (by rw[a3]) (by rw[a4]) a5 Cz hsz m5 m2 ⟨by omega,by omega⟩ m3 m4 true ⟨λ_=>⟨by rw[<-b3];exact m7,?_⟩,λ_=>rfl⟩
      .rw[<-b3]at h8;refine h8.mono λe w'⟨_,a,c⟩=>?_;obtain⟨vN,vD,e1,e2,e3⟩:=a rfl;rw[<-Z4]at e2 e3;exact⟨vN,vD,e1,e2,e3,c⟩
      by_cases hf0:(qf u:Int)=0
      .right;have:=m6 hf0;omega
      exact Or.inl hf0
     right;refine⟨no (by omega) hc (λh=>hM h.2.2.2),λW=>?_⟩;by_cases k:¬(qb u:Int)<1∧¬16<(qb u:Int)∧¬(qt u:Int)<1∧¬999999999<(qt u:Int)∧¬999999999<(qf u:Int)∧¬(qf u:Int)=(qt u:Int)∧¬1073741824<(qm u:Int)
     .have h8:=sG tx W hz h22 hs hc' (qf u) (qt u) (qm u) (qb u) (qn u) (by rw[a1]) (by rw[a2]) (by rw[a3]) (by rw[a4]) a5 Cz hsz ⟨by omega,by omega⟩ ⟨by omega,by omega⟩ ⟨by omega,by omega⟩ k.2.2.2.2.2.1 (by omega) false ⟨λh=>(by cases h),λh=>?_⟩
      .exact h8.mono λe w'⟨a,_,c⟩=>⟨a rfl,c⟩
      exfalso;refine hM ⟨?_,⟨by omega,by omega⟩,k.2.2.2.2.2.1,by omega,⟨by omega,by omega⟩,λh0=>?_,by rw[b3];exact h.1⟩
      .by_cases h0:(qf u:Int)=0
       .exact Or.inl h0
       exact Or.inr ⟨by omega,by omega⟩
      have:=h.2;omega
     exact uQ tx W hz h22 hs hc' (qf u) (qt u) (qm u) (qb u) (qn u) (by rw[a1]) (by rw[a2]) (by rw[a3]) (by rw[a4]) a5 Cz (λh=>k h.2)
    right;refine⟨no (by omega) hc (λh=>hsz ?_),λW=>uQ tx W hz h22 hs hc' (qf u) (qt u) (qm u) (qb u) (qn u) (by rw[a1]) (by rw[a2]) (by rw[a3]) (by rw[a4]) a5 Cz (λh=>hsz h.1)⟩;have:=Db h.2.1 h.2.2.1;omega
   have hs2:((tx.extract 0 4).toList==[83,78,68,49])=false:=by simpa using hs
   right;refine⟨no (by omega) hc (λh=>hs ?_),λW=>sH tx W h22 hs2⟩;rw[<-a0,h.1,ByteArray.toList_eq];rfl
  have hc2:((tx.extract (bW tx) tx.size).toList==(kE u.data.toList).ba.toList)=false:=by simpa using hc
  right;refine⟨λW=>uM tx W hz (by rw[hu];exact hc2),λW=>?_⟩;by_cases hs:((tx.extract 0 4).toList==[83,78,68,49])=true
  .exact zi tx W hz h22 hs (by rw[hu,zh];exact hc2)
  exact sH tx W h22 (by simpa using hs)
 right;refine⟨λW=>?_,λW=>zk tx W (by omega)⟩;by_cases hc:((tx.extract (bW tx) tx.size).toList==(kE u.data.toList).ba.toList)=true
 .by_cases h5:5≤tx.size
  .exact no h5 hc (λh=>by have:=Db h.2.1 h.2.2.1;omega) W
  exact A9 tx W (by omega) (by rw[hu];exact hc)
 exact uM tx W hz (by rw[hu];simpa using hc)
end Go.Proofs.YtjceeemlilnplaaGreatDoor
