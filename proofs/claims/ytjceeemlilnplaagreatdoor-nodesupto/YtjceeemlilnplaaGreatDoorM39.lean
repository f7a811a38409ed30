import Derived.Test.YtjceeemlilnplaaGreatDoorM38
import Derived.Laws.CopyOwn
set_option maxRecDepth 100000
set_option maxHeartbeats 12800000
set_option linter.all false
namespace Go.Proofs.YtjceeemlilnplaaGreatDoor
open Go.RowKit Go.Maps Go.MuLone
def iC(zs:List Int):List Value:=zs.map (Value.int .i64)
theorem zZ(zs:List Int):(iC zs).length=zs.length:=by simp[iC]
theorem BS{w:World}{g:Nat}{zs:List Int}{tl:List Value}{t:TypeId}{cap:Nat}(h:w.heap[g]?=some (.cells (iC zs++tl).toArray t (0,0)))(hc:zs.length≤cap):eU w (some (Ad g 0)) zs cap:=by refine⟨hc,λh0=>⟨g,0,rfl,λi hi=>?_⟩⟩;rw[eV,cell_of h,dq,eS (by rw[zZ];exact hi)];simp[iC,tm,hi]
theorem oN{F:List Nat}{w:World}{vb:Nat}(hv:vb∈F∨w.heap.size≤vb):∀(l:List Value)(o:Nat)(w1:World),Fr F w w1->Fr F w (w1.setCells vb o l)
 |[],_,_,h=>h
 |_::r,o,_,h=>oN hv r (o+1) _ (h.setCell _ hv)
theorem uD{w1:World}{gb n:Nat}{Z X:List Value}(hZ:Z.length=n+2)(hX:X.length=n)(h0:w1.heap[gb]?=some (.cells Z.toArray 3 (0,0))):(∃v,(w1.setCells gb 0 X).cell? (Ad gb n)=some v)∧(w1.setCells gb 0 X).frozen? (Ad gb n)=false∧(∃v,((w1.setCells gb 0 X).setCell (Ad gb n) (.i 77)).cell? (Ad gb (n+1))=some v)∧((w1.setCells gb 0 X).setCell (Ad gb n) (.i 77)).frozen? (Ad gb (n+1))=false∧(((w1.setCells gb 0 X).setCell (Ad gb n) (.i 77)).setCell (Ad gb (n+1)) (.i 77)).heap[gb]?=some (.cells (X++[Value.i 77,Value.i 77]).toArray 3 (0,0)):=by
 obtain⟨cur,h,hs,hc⟩:=bH X 0 w1 Z.toArray h0;have hs2:cur.size=n+2:=by rw[hs];simpa using hZ
 have h1:=dy (w1.setCells gb 0 X) gb n _ _ (.i 77) h;have h2:=dy _ gb (n+1) _ _ (.i 77) h1;refine⟨⟨cur[n],?_⟩,ay h _,⟨cur[n+1],?_⟩,ay h1 _,?_⟩
 .rw[cell_of h,ff (by omega)]
 .rw[cell_of h1,Array.getElem?_setIfInBounds_ne (by omega),ff (by omega)]
 rw[h2];congr 2;apply Array.ext_getElem?;intro k;rw[dq (xs:=X++[Value.i 77,Value.i 77])];by_cases e1:k=n+1
 .subst e1;rw[Array.getElem?_setIfInBounds_self_of_lt (by simp;omega),eC (by omega),hX];simp
 rw[Array.getElem?_setIfInBounds_ne (by omega)];by_cases e2:k=n
 .subst e2;rw[Array.getElem?_setIfInBounds_self_of_lt (by omega),eC (by omega),hX];simp
 rw[Array.getElem?_setIfInBounds_ne (by omega)];by_cases e3:k<n
 .rw[hc k (by simp[hZ];omega),if_pos ⟨by omega,by omega⟩,eS (by omega)];rfl
 rw[Array.getElem?_eq_none (by omega),lh (by simp;omega)]
theorem tV(db b rb n cap:Nat)(ao:Option Addr)(zs:List Int)(c:Int)(P0 P1 P2:Nat->World->Prop)(w:World)(hn:zs.length=n)(hnil:ao=none->cap=0)(hz:n≤1500000)(hr:∀W,Fr [] w W->eU W ao zs cap)(c0:w.cell? (Ad db 0)=some (.p b))
 (h0:∀gb W,Fr [] w W->w.heap.size≤gb->W.heap[gb]?=some (.cells (iC zs++[Value.i 77,Value.i 77]).toArray 3 (0,0))->P0 gb W)(hF:∀gb W W',Fr [] W W'->(P1 gb W->P1 gb W')∧(P2 gb W->P2 gb W'))(hC:∀gb W,P1 gb W->W.cell? (Ad db 1)=some (.p rb))(hB:∀gb W,P2 gb W->W.heap[gb]?=some (.cells (iC zs++[Value.i 77,Value.i 77]).toArray 3 (0,0))∧eU W ao zs cap)
 (h1:∀gb W a k,P0 gb W->eU W a zs k->(∀x off,a=some (Ad x off)->x=gb)->Rc 120 #[.p b,.slice a n k] W (.i c) λw'=>P1 gb w')(h2:∀gb W,P1 gb W->Rc 121 #[.p rb,.slice ao n cap] W (.i c) λw'=>P2 gb w'):
 Rc 74 #[.p db,.slice ao n cap] w (.bool true) λw'=>∃gb,P2 gb w':=by
 obtain⟨i0,hi,hz0,hz1,hz2⟩:=info_parts info3;have hsz1:(Tryz.prog.info? 3).map (·.size)=some 1:=by rw[hi];simp[hz1]
 have HS:=Hj2 hr hn;have HI:=Hd h0;have HF:=Hd hF;have HC:=Hd hC;have HB:=Hd hB;have H1:=Hd λgb W a k=>h1 gb W a k;have H2:=Hd λgb W=>h2 gb W;have hcap:n≤cap:=by rw[<-hn];exact(hr w fR).1
 have q1:IntKind.i64.wrap ((n:Int)+2)=((n+2:Nat):Int):=by rw[show((n+2:Nat):Int)=(n:Int)+2 by omega];exact aD ⟨by omega,by omega⟩
 have q2:IntKind.i64.wrap ((n:Int)+1)=(n:Int)+1:=aD ⟨by omega,by omega⟩;obtain⟨X,hX⟩:=eX (iC zs);have HX:Hid (iC zs=X∧X.length=n∧(∀v∈X,v.oneCell'=true)):=⟨hX,by rw[<-hX,zZ,hn],by rw[<-hX];intro v hv;obtain⟨z,_,rfl⟩:=fm.1 hv;rfl⟩;rw[hX]at HI HB;clear h0 hF hC hB h1 h2 hr hn hX;cases ao with
 |none=>
  have hn0:n=0:=by
   rw[<-HS.o.2];rcases Nat.eq_zero_or_pos zs.length with e|e
   .exact e
   obtain⟨_,_,e2,_⟩:=(HS.o.1 w fR).2 e;cases e2
  have hz0':zs=[]:=List.length_eq_zero_iff.1 (by rw[HS.o.2];exact hn0);have hc0:=hnil rfl;subst hn0;subst hc0;subst hz0';have hX0:X=[]:=HX.o.1.symm;subst hX0;have he:∀W:World,(binOp .eql 30 (.slice none 0 0) (.slice none 0 0)).run Tryz.prog W=.ok (.bool true) W:=λ_=>rfl;clear hnil HX q1 q2 hcap hz;go_enter Tryz.func74,Tryz.ntmps74;go_wp2_with (first
   |(at_make;refine wpList_make_full _ rfl _ _ 30 rfl w.heap.size 3 i0 _ 1 Tryz.underlying30 hi hz0 hz1 _ _ _ _ 2 rfl rfl (by first|rfl|omega) (by first|rfl|omega) (by rw[hz2];omega) (by unfold maxLen;omega) (by simp) ?_;intro w1 hown1 hgrow1;have F1:Hid (Fr [] w w1):=fR.grown hgrow1 (λk hk=>by simp at hk);obtain⟨Z,hZ1,hZ2⟩:∃Z:List Value,Z.length=2∧w1.heap[w.heap.size]?=some (.cells Z.toArray 3 (0,0)):=⟨_,(by simpa using hown1.1),gF hown1⟩;have HZ:=Hj2 hZ1 hZ2;clear hown1 hgrow1 hZ1 hZ2;have Kg:∀ty,(Builtin.copy_ #[30,30] ty #[.slice (some (Ad w.heap.size 0)) 2 2,.slice none 0 0]).run Tryz.prog w1=.ok (goInt 0) w1:=(λty=>run_copy_none (P:=Tryz.prog) w1 30 30 ty 3 _ _ 2 2 0 0 Tryz.underlying30 hsz1 rfl);obtain⟨⟨v1,g1⟩,g2,⟨v2,g3⟩,g4,g5⟩:=uD (n:=0) (X:=[]) HZ.o.1 rfl HZ.o.2;have g0:cD ((w1.setCell (Ad w.heap.size 0) (.i 77)).setCell (Ad w.heap.size 1) (.i 77)) db 0 (.p b):=((F1.o.setCell _ (Or.inr (eh _))).setCell _ (Or.inr (eh _))).gb.cell c0 (by simp);have g1':cD w1 w.heap.size 0 v1:=g1;have g2':w1.frozen? (Ad w.heap.size 0)=false:=g2;have g3':cD (w1.setCell (Ad w.heap.size 0) (.i 77)) w.heap.size 1 v2:=g3;have g4':(w1.setCell (Ad w.heap.size 0) (.i 77)).frozen? (Ad w.heap.size 1)=false:=g4;have NC:Hid (((w1.setCell (Ad w.heap.size 0) (.i 77)).setCell (Ad w.heap.size 1) (.i 77)).heap[w.heap.size]?=some (.cells #[Value.i 77,Value.i 77] 3 (0,0))):=g5;clear g1 g2 g3 g4 g5))
  obtain⟨gb,hgb⟩:=eX w.heap.size;obtain⟨W3,hW3⟩:=eX ((w1.setCell (Ad w.heap.size 0) (.i 77)).setCell (Ad w.heap.size 1) (.i 77));have H3:Hid (P0 gb W3):=by have h8:=NC.o;rw[hW3,hgb]at h8;refine HI.o gb W3 ?_ (by omega) h8;rw[<-hW3];exact(F1.o.setCell _ (Or.inr (eh _))).setCell _ (Or.inr (eh _))
  rw[hW3,hgb];rw[hW3]at g0;clear hW3 Kg g1' g2' g3' g4' NC HZ F1 hgb;have Ru:Hid (∀(W:World)(a:Option Addr)(p:Nat),eU W a [] p):=λW a p=>⟨dC _,λh=>by simp at h⟩;have Kh:Hid (∀W:World,W.heap[gb]?=some (.cells #[Value.i 77,Value.i 77] 3 (0,0))->W.cell? (Ad gb 0)=some (.i 77)∧W.cell? (Ad gb 1)=some (.i 77)):=λW hW=>by refine⟨?_,?_⟩<;>rw[cell_of hW]<;>rfl
  go_wp2_with (first
   |(go_at_call 120;refine(H1.o gb W3 none 0 H3.o (Ru.o _ _ _) (λx off e=>by cases e)).mono ?_;rintro e w4 ⟨rfl,p4⟩;have H4:=Hd p4;have c41:=HC.o _ _ p4;clear p4)
   |(go_at_call 121;refine(H2.o gb _ (by first|exact H4.o|exact(HF.o _ _ _ fR.drew).1 H4.o|exact(HF.o _ _ _ (fR.drewN _)).1 H4.o)).mono ?_;rintro e w5 ⟨rfl,p5⟩;have H5:=Hd p5;clear p5)
   |(go_at_call 24;refine(iX (some (Ad gb 0)) none [] 2 0 w5 (Ru.o _ _ _) (Ru.o _ _ _) (by simp)).mono ?_;rintro e w6 ⟨rfl,q6,Ga⟩;have H6:Hid (P2 gb w6):=(by rw[Ga];exact(HF.o _ _ _ (fR.drewN _)).2 H5.o);obtain⟨x1,x2⟩:=Kh.o w6 (HB.o _ _ H6.o).1;clear Ga))
  go_ret;exact⟨rfl,gb,H6.o⟩
 |some ad=>
  have Wd:Hid (∀W,Fr [] w W->∀j v,X[j]?=some v->W.cell? (ad.add j)=some v):=λW hW j v hv=>by
   have hRW:=HS.o.1 W hW;have hj:j<zs.length:=by have:=(df.1 hv).1;rw[HX.o.2.1]at this;rw[HS.o.2];exact this
   obtain⟨rb',off,e,hc⟩:=hRW.2 (by omega);simp only[ip]at e;rw[e,Addr.add_lit,hc j hj];rw[<-HX.o.1]at hv;simp only[iC,List.getElem?_map,dp hj,Option.map_some,ip]at hv;rw[lD zs j hj];exact congrArg some hv
  have he:∀W:World,(binOp .eql 30 (.slice (some ad) n cap) (.slice none 0 0)).run Tryz.prog W=.ok (.bool false) W:=λ_=>rfl;have n1:(n:Int)<((n+2:Nat):Int):=by omega
  have n2:(n:Int)+1<((n+2:Nat):Int):=by omega
  have n3:((n:Int)+1).toNat=n+1:=by omega
  have n4:(0:Int)≤(n:Int)+1:=by omega
  go_enter Tryz.func74,Tryz.ntmps74;go_wp2_with (first
   |(at_make;refine wpList_make_full _ rfl _ _ 30 rfl w.heap.size 3 i0 _ 1 Tryz.underlying30 hi hz0 hz1 _ _ _ _ (n+2) rfl rfl (by first|rfl|omega|exact q1) (by first|rfl|omega|exact q1) (by rw[hz2];omega) (by unfold maxLen;omega) (by simp) ?_;intro w1 hown1 hgrow1;have F1:Hid (Fr [] w w1):=fR.grown hgrow1 (λk hk=>by simp at hk);obtain⟨Z,hZ1,hZ2⟩:∃Z:List Value,Z.length=n+2∧w1.heap[w.heap.size]?=some (.cells Z.toArray 3 (0,0)):=⟨_,(by simpa using hown1.1),gF hown1⟩;have HZ:=Hj2 hZ1 hZ2;clear hown1 hgrow1 hZ1 hZ2;have Kg:∀ty,(Builtin.copy_ #[30,30] ty #[.slice (some (Ad w.heap.size 0)) (n+2) (n+2),.slice (some ad) n cap]).run Tryz.prog w1=.ok (goInt n) (w1.setCells w.heap.size 0 X):=(λty=>by have h8:=run_copy_cells (P:=Tryz.prog) w1 30 30 ty 3 w.heap.size 0 (n+2) (n+2) ad n cap X Tryz.underlying30 hsz1 (by rw[HX.o.2.1];simp) (Wd.o w1 F1.o) (λj hj=>by rw[eV,cell_of HZ.o.2,dq,dp (by rw[HZ.o.1];rw[HX.o.2.1]at hj;omega)];rfl) (λj hj=>ay HZ.o.2 _) HX.o.2.2;rw[HX.o.2.1]at h8;exact h8);obtain⟨⟨v1,g1⟩,g2,⟨v2,g3⟩,g4,g5⟩:=uD HZ.o.1 HX.o.2.1 HZ.o.2;have g0:cD (((w1.setCells w.heap.size 0 X).setCell (Ad w.heap.size n) (.i 77)).setCell (Ad w.heap.size (n+1)) (.i 77)) db 0 (.p b):=(((oN (F:=[]) (w:=w) (vb:=w.heap.size) (Or.inr (eh _)) X 0 w1 F1.o).setCell _ (Or.inr (eh _))).setCell _ (Or.inr (eh _))).gb.cell c0 (by simp);obtain⟨w2,hw2⟩:=eX (w1.setCells w.heap.size 0 X);have NC:=Hj2 hw2 g5;rw[hw2]at Kg g0 g1 g2 g3 g4;clear g5 hw2))
  obtain⟨gb,hgb⟩:=eX w.heap.size;obtain⟨W3,hW3⟩:=eX ((w2.setCell (Ad w.heap.size n) (.i 77)).setCell (Ad w.heap.size (n+1)) (.i 77));have Qv:Hid (Fr [] w W3∧W3.heap[gb]?=some (.cells (X++[Value.i 77,Value.i 77]).toArray 3 (0,0))):=by have h8:=NC.o.2;rw[NC.o.1,hW3,hgb]at h8;refine⟨?_,h8⟩;rw[<-hW3,<-NC.o.1];exact((oN (F:=[]) (w:=w) (vb:=w.heap.size) (Or.inr (eh _)) X 0 w1 F1.o).setCell _ (Or.inr (eh _))).setCell _ (Or.inr (eh _))
  have H3:Hid (P0 gb W3∧eU W3 (some (Ad gb 0)) zs (n+2)):=⟨HI.o gb W3 Qv.o.1 (by omega) Qv.o.2,BS (tl:=[Value.i 77,Value.i 77]) (by rw[HX.o.1];exact Qv.o.2) (by rw[HS.o.2];omega)⟩;rw[hW3,hgb];rw[hW3]at g0;clear hW3 Kg g1 g2 g3 g4 NC HZ F1 hgb Qv;have Kh:Hid (∀W:World,W.heap[gb]?=some (.cells (X++[Value.i 77,Value.i 77]).toArray 3 (0,0))->W.cell? (Ad gb n)=some (.i 77)∧W.cell? (Ad gb (n+1))=some (.i 77)):=λW hW=>by have hl:=HX.o.2.1;refine⟨?_,?_⟩<;>rw[cell_of hW,dq,eC (by omega),hl]<;>simp
  have HSame:Hid (∀W:World,P2 gb W->Rc 24 #[.slice (some (Ad gb 0)) n (n+2),.slice (some ad) n cap] W (.bool true) λw'=>∃q,w'=W.drewN q):=λW h1=>by obtain⟨h1,h2⟩:=HB.o gb W h1;have h8:=iX (some (Ad gb 0)) (some ad) zs (n+2) cap W (BS (tl:=[Value.i 77,Value.i 77]) (by rw[HX.o.1];exact h1) (by rw[HS.o.2];omega)) h2 (by rw[HS.o.2];omega);rw[HS.o.2]at h8;exact h8
  go_wp2_with (first
   |(go_at_call 120;refine(H1.o gb W3 (some (Ad gb 0)) (n+2) H3.o.1 H3.o.2 (λx off e=>by cases e;rfl)).mono ?_;rintro e w4 ⟨rfl,p4⟩;have H4:Hid (P1 gb w4):=p4;have c41:=HC.o _ _ p4;clear p4)
   |(go_at_call 121;refine(H2.o gb _ (by first|exact H4.o|exact(HF.o _ _ _ fR.drew).1 H4.o|exact(HF.o _ _ _ (fR.drewN _)).1 H4.o)).mono ?_;rintro e w5 ⟨rfl,p5⟩;have H5:Hid (P2 gb w5):=p5;clear p5)
   |(go_at_call 24;refine(HSame.o _ H5.o).mono ?_;rintro e w6 ⟨rfl,q6,Ga⟩;have H6:Hid (P2 gb w6):=(by rw[Ga];exact(HF.o _ _ _ (fR.drewN _)).2 H5.o);obtain⟨x1,x2⟩:=Kh.o w6 (HB.o _ _ H6.o).1;clear Ga))
  go_ret;exact⟨rfl,gb,H6.o⟩
structure eB(m:Nat)(K:Int)(A:Nt):Prop where
 s:fG A.s
 num:gI A.s K
 pl:A.s.ps.length=m
 k:∀i,pX (A.k i)
structure AQ(w0:World)(lo:Option Addr)(zs:List Int)(nc:Nat):Prop where
 row:eU w0 lo zs nc
 nil:lo=none->nc=0
 len:zs.length≤1048576
 fit:∀i,i<zs.length->In64 (tm zs i)
section
variable {L:Ly}{A C A' C':Nt}{n n' B m c:Nat}{X X':Nat->Option Row}{w0 W W' w:World}{i j ob:Nat}{v:Value}{y:Row}{V V':Lw}{xs:List Value}{r r':ak}{G F:List Nat}{K:Int}{f g:Nat}{args:Nat->Array Value}{kd at' a b:Int}{t:cC}{l:Value}{zs:List Int}{lo:Option Addr}{nc:Nat}
theorem eB.dA(h:eB m K A):eB m K (A.dA j r):=by
 unfold Nt.dA Nt.fQ;split
 .exact⟨⟨h.s.every,h.s.wait,h.s.last,h.s.rs,h.s.time,h.s.ps,h.s.pr⟩,h.num,h.pl,h.k⟩
 refine⟨h.s,h.num,h.pl,λi=>?_⟩;by_cases e:i=j
 .simp only[e,if_true];exact⟨(h.k j).last,(h.k j).rs⟩
 simp only[e,if_false];exact h.k i
theorem eB.le{K':Int}(h:eB m K A)(hk:K≤K'):eB m K' A:=⟨h.s,λp hp=>Int.le_trans (h.num p hp) hk,h.pl,h.k⟩
theorem mV.le{c':Nat}(h:mV m c V)(hc:c≤c'):mV m c' V:=⟨h.k4,by have:=h.kl;omega,h.k16,h.y,by have:=h.yl;omega,h.t,by have:=h.tl;omega⟩
theorem NW.clear(h:NW L A C n X V w0 W):NW L A C n fH V w0 W:=NP.clear h
theorem NW.OQ(h:NW L A C n X V w0 W):Fr [] w0 W:=by obtain⟨_,_,_,f,_⟩:=NP.law h;exact f
theorem JD(h:NW L A A n fH V w0 W)(hj:j≤L.m)(hn:n+10≤1000000000)(hb:BC f g args (A.r j) v r')
 (hk:(∃z,kd=1∧f=63∧g=64∧(args=λb=>#[.p b,.i a,.t t])∧v=.i z)∨(∃u z,kd=2∧f=28∧g=29∧(args=λb=>#[.p b,.i a])∧v=.tuple #[.t u,.i z])∨(∃u z,kd=3∧f=65∧g=66∧(args=λb=>#[.p b,.i a])∧v=.tuple #[.i u,.i z])∨(∃u z,kd=5∧f=68∧g=69∧(args=λx=>#[.p x,.i a,.i b])∧v=.tuple #[.t u,.i z])∨(∃z,kd=6∧f=70∧g=71∧(args=λb=>#[.p b,.i a])∧v=.i z)∨(∃z,kd=7∧f=72∧g=73∧(args=λb=>#[.p b,.i a])∧v=.i z)∨(∃z,kd=9∧f=75∧g=76∧(args=λb=>#[.p b,.i a])∧v=.i z)∨(∃z,kd=10∧f=77∧g=78∧(args=λb=>#[.p b,.i a])∧v=.i z)):
 Rc 35 #[.p L.nb,.p (L.d j),.agg (opC kd at' a b t l).toArray] W (.bool true) λw'=>NW L (A.dA j r') (A.dA j r') (n+2) fH V w0 w':=by
 have hX:aO fH 5 (some (eO W.heap.size 32 (opC kd at' a b t l))) 5=some (eO W.heap.size 32 (opC kd at' a b t l)):=if_pos rfl;refine(Fg L.nb (L.d j) W.heap.size (L.p j).b (L.r j).b f g kd at' a b t l v args (λW'=>NW L A A n (aO fH 5 (some (eO W.heap.size 32 (opC kd at' a b t l)))) V w0 W') (λW'=>NW L (A.dA j r') A (n+1) (aO fH 5 (some (eO W.heap.size 32 (opC kd at' a b t l)))) V w0 W') (λW'=>NW L (A.dA j r') (A.dA j r') (n+2) (aO fH 5 (some (eO W.heap.size 32 (opC kd at' a b t l)))) V w0 W') W rfl hk (h.alloc 5 32 _) (λW W' f=>⟨λh=>h.same f,λh=>h.same f⟩) (λW' hW=>?_) (λW' hW=>NP.yN hW hj hb (by omega)) (λW' hW=>NP.yO hW hj hb)).mono ?_
 .rcases hW with hW|hW|hW
  .have h9:=hW.Fe hX hj;exact⟨⟨h9.1.1,h9.1.2.1,h9.1.2.2.1,h9.1.2.2.2.1⟩,h9.2⟩
  .have h9:=hW.Fe hX hj;exact⟨⟨h9.1.1,h9.1.2.1,h9.1.2.2.1,h9.1.2.2.2.1⟩,h9.2⟩
  have h9:=hW.Fe hX hj;exact⟨⟨h9.1.1,h9.1.2.1,h9.1.2.2.1,h9.1.2.2.2.1⟩,h9.2⟩
 rintro e w' ⟨he,h9⟩;exact⟨he,h9.clear⟩
theorem NW.YF(h:NW L A C n X V w0 W)(hj:j≤L.m)(hn:n≤1000000000)(hb:UD zs (A.r j) v r'∧∀n,Ok n (A.r j)->Ok (n+1) r'){a:Option Addr}{k:Nat}(hr:eU W a zs k)(ha:∀x off,a=some (Ad x off)->∃i y,X i=some y∧y.v.ownBlock=some x):Rc 120 #[.p (L.p j).b,.slice a zs.length k] W v λw'=>NW L (A.dA j r') C (n+1) X V w0 w':=by
 obtain⟨h1,fp,h⟩:=h;have hq:=h.q (1,j);rw[rJ]at hq;refine(hq.yM (v:=v) (r':=r') hj λF s hF=>?_).mono ?_
 .refine(hb.1 _ _ F n W a k s.1 hn hr λx off e _ hm=>?_).mono ?_
  .obtain⟨i,y,hx,hy⟩:=ha x off e;have h3:=h.q (3,i);rw[lQ,hx]at h3;have:=h.ap (1,j) (3,i) x (hF x hm) (by rw[h3.1];simp[hy]);cases this
  rintro e w' ⟨he,F',s',g'⟩;exact⟨he,F',⟨s',hb.2 n s.2⟩,g'⟩
 rintro e w' ⟨he,G',k',g'⟩;exact⟨he,h1,_,h.step (bQ h1) (bQ h1) g' (by rw[rJ];exact k') λi hi G W hq=>wu hi (by omega) (λk hk G W h=>h.other hk) hq⟩
theorem NW.YG(h:NW L A C n X V w0 W)(hj:j≤L.m)(hb:RD zs (C.r j) v r'∧∀n,Ok n (C.r j)->Ok (n+1) r'){a:Option Addr}{k:Nat}(hr:eU W a zs k)(ha:∀x off,a=some (Ad x off)->0<zs.length->x<w0.heap.size):Rc 121 #[.p (L.r j).b,.slice a zs.length k] W v λw'=>NW L A (C.dA j r') (n+1) X V w0 w':=by
 obtain⟨h1,fp,h⟩:=h;have hq:=h.q (2,j);rw[rH]at hq;refine(hq.yM (v:=v) (r':=r') hj λF s hF=>?_).mono ?_
 .refine(hb.1 _ _ F W a k s.1 hr λx off e h0 hm=>?_).mono ?_
  .have:=ha x off e h0;have:=(h.ge (2,j) x (hF x hm)).1;omega
  rintro e w' ⟨he,F',s',g'⟩;exact⟨he,F',⟨s',hb.2 n s.2⟩,g'⟩
 rintro e w' ⟨he,G',k',g'⟩;exact⟨he,h1,_,h.step (bQ h1) (bQ h1) g' (by rw[rH];exact k') λi hi G W hq=>wz hi (by omega) (λk hk G W h=>h.other hk) hq⟩
theorem eU.Xm(h:eU w0 lo zs nc):∀x off,lo=some (Ad x off)->0<zs.length->x<w0.heap.size:=λx off e h0=>by
 obtain⟨b,o,e2,hc⟩:=h.2 h0;rw[e]at e2;have e2:x=b∧off=o:=by simpa using e2
 have:=dm _ _ (hc 0 h0);rw[e2.1];exact this
theorem wY(h:NW L A A n X V w0 W)(hj:j≤L.m)(hn:n+10≤1000000000)(hl:AQ w0 lo zs nc):Rc 74 #[.p (L.d j),.slice lo zs.length nc] W (.bool true) λw'=>∃r' X',NW L (A.dA j r') (A.dA j r') (n+2) X' V w0 w':=by have ok:=(NP.ok h hj).1;obtain⟨c,r',⟨hU,hR,hO⟩,_⟩:=tL (ok.le (by omega)) zs (by have:=hl.len;omega) hl.fit;have hd:=h.lm.ds j hj;have hrow:∀W',Fr [] w0 W'->eU W' lo zs nc:=λW' f=>hl.row.fr f (by simp);have hlen:=hl.len;have hX:∀gb,aO X 6 (some ⟨.slice (some (Ad gb 0)) (zs.length+2) (zs.length+2),3,1,zs.length+2,iC zs++[Value.i 77,Value.i 77]⟩) 6=some ⟨.slice (some (Ad gb 0)) (zs.length+2) (zs.length+2),3,1,zs.length+2,iC zs++[Value.i 77,Value.i 77]⟩:=λgb=>if_pos rfl;refine(tV (L.d j) (L.p j).b (L.r j).b zs.length nc lo zs c (λgb W'=>NW L A A n (aO X 6 (some ⟨.slice (some (Ad gb 0)) (zs.length+2) (zs.length+2),3,1,zs.length+2,iC zs++[Value.i 77,Value.i 77]⟩)) V w0 W') (λgb W'=>NW L (A.dA j r') A (n+1) (aO X 6 (some ⟨.slice (some (Ad gb 0)) (zs.length+2) (zs.length+2),3,1,zs.length+2,iC zs++[Value.i 77,Value.i 77]⟩)) V w0 W') (λgb W'=>NW L (A.dA j r') (A.dA j r') (n+2) (aO X 6 (some ⟨.slice (some (Ad gb 0)) (zs.length+2) (zs.length+2),3,1,zs.length+2,iC zs++[Value.i 77,Value.i 77]⟩)) V w0 W') W rfl hl.nil (by omega) (λW' f=>hrow W' (h.OQ.trans f (by simp))) (ce hd rfl) (λgb W' f hg hb=>NP.K4 h f 6 (y:=⟨_,3,1,_,_⟩) (pJ hb (by simp[zZ]) (by omega) hg)) (λgb W W' f=>⟨λh=>h.same f,λh=>h.same f⟩) (λgb W' hW=>ce (hW.lm.ds j hj) rfl) (λgb W' hW=>⟨gF (NP.row hW (hX gb)),hrow W' hW.OQ⟩) (λgb W' a k hW hr ha=>NW.YF hW hj (by omega) ⟨hU,hO⟩ hr λx off e=>⟨6,_,hX gb,by rw[ha x off e];simp[Value.ownBlock]⟩) (λgb W' hW=>NW.YG hW hj ⟨hR,hO⟩ (hrow W' hW.OQ) hl.row.Xm)).mono ?_;rintro e w' ⟨he,gb,h9⟩;exact⟨he,r',_,h9⟩
theorem Fh(wb db ob:Nat)(at' a b:Int)(t:cC)(lo:Option Addr)(k nc:Nat)(P0 P2:World->Prop)(w:World)(jT:w.heap.size=ob)(h0:P0 (w.alloc (.cells (opC 8 at' a b t (.slice lo k nc)).toArray 32)))(hF:∀W W',Fr [] W W'->P0 W->P0 W')(hC:∀W,P0 W->W.cell? (Ad ob 0)=some (.i 8)∧W.cell? (Ad ob 5)=some (.slice lo k nc))(h1:∀W,P0 W->Rc 74 #[.p db,.slice lo k nc] W (.bool true) λw'=>P2 w'):
 Rc 35 #[.p wb,.p db,.agg (opC 8 at' a b t (.slice lo k nc)).toArray] w (.bool true) λw'=>P2 w':=by
 have HF:=Hd hF;have H1:=Hd λW=>h1 W;obtain⟨W1,hW1⟩:=eX (w.alloc (.cells (opC 8 at' a b t (.slice lo k nc)).toArray 32));rw[hW1]at h0;obtain⟨k0,k5⟩:=hC W1 h0;have H0:=Hd h0;unfold opC at hW1⊢;clear hF hC h0 h1;go_enter Tryz.func35,Tryz.ntmps35;go_wp2_with (go_at_call 74;refine(H1.o _ (by first|exact H0.o|exact HF.o _ _ fR.drew H0.o|exact HF.o _ _ (fR.drewN _) H0.o)).mono ?_;rintro e w5 ⟨rfl,p5⟩;have H5:=Hd p5;clear p5);go_ret;exact⟨rfl,H5.o⟩
theorem Fj(h:NW L A A n fH V w0 W)(hj:j≤L.m)(hn:n+10≤1000000000)(hc:c≤1000000)(hV:mV m c V)(hl:AQ w0 lo zs nc)(hk:1≤kd∧kd≤11)(ha:In64 a):Rc 35 #[.p L.nb,.p (L.d j),.agg (opC kd at' a b t (.slice lo zs.length nc)).toArray] W (.bool true) λw'=>∃A' V',NW L A' A' (n+2) fH V' w0 w'∧mV m (c+1) V'∧∀m K,eB m K A->eB m K A':=by
 have ok:=(NP.ok h hj).1.le (show n≤1000000000 by omega);have hbc:∀{f g:Nat}{args:Nat->Array Value}{v:Value}{r':ak},BC f g args (A.r j) v r'->_->_:=λ{f g args v r'}hb hk=>(JD (kd:=kd) (at':=at') (a:=a) (b:=b) (t:=t) (l:=.slice lo zs.length nc) h hj hn hb hk).mono λe w' h9=>(⟨h9.1,A.dA j r',V,h9.2,hV.le (by omega),λm K h=>h.dA⟩:e=.returned (.bool true)∧∃A' V',NW L A' A' (n+2) fH V' w0 w'∧mV m (c+1) V'∧∀m K,eB m K A->eB m K A');rcases(by omega:kd=1∨kd=2∨kd=3∨kd=4∨kd=5∨kd=6∨kd=7∨kd=8∨kd=9∨kd=10∨kd=11)with e|e|e|e|e|e|e|e|e|e|e
 .obtain⟨z,r',hb⟩:=JE ok a t;exact hbc hb (Or.inl ⟨z,e,rfl,rfl,rfl,rfl⟩)
 .obtain⟨z,hb⟩:=Dm ok a;exact hbc hb (Or.inr (Or.inl ⟨z.1,z.2,e,rfl,rfl,rfl,rfl⟩))
 .obtain⟨z,r',hb⟩:=CV ok a;exact hbc hb (Or.inr (Or.inr (Or.inl ⟨z.1,z.2,e,rfl,rfl,rfl,rfl⟩)))
 .subst e;have hX:∀X:Nat->Option Row,X=aO fH 5 (some (eO W.heap.size 32 (opC 4 at' a b t (.slice lo zs.length nc))))∨(∃y,X=aO (aO fH 5 (some (eO W.heap.size 32 (opC 4 at' a b t (.slice lo zs.length nc))))) 0 y)->X 5=some (eO W.heap.size 32 (opC 4 at' a b t (.slice lo zs.length nc))):=λX hX=>by rcases hX with rfl|⟨y,rfl⟩<;>simp[aO]
  have YD:=ok.len;have Mi:(A.r j).sh.length≤12:=by omega
  refine(vC L.nb (L.d j) W.heap.size (L.p j).b (L.r j).b (A.r j).sh.length 21 22 23 67 4 at' a b t (.slice lo zs.length nc) (λW'=>NW L A A n (aO fH 5 (some (eO W.heap.size 32 (opC 4 at' a b t (.slice lo zs.length nc))))) V w0 W') (λW'=>∃V',mV m (c+1) V'∧∃X',NW L A A n X' V' w0 W') (λgg W'=>NW L A A n (aO (aO fH 5 (some (eO W.heap.size 32 (opC 4 at' a b t (.slice lo zs.length nc))))) 0 (some ⟨.slice (some (Ad gg 0)) (A.r j).sh.length (A.r j).sh.length,84,3,(A.r j).sh.length,dL ((A.r j).sh.map r3)⟩)) V w0 W') (λgg va vc W'=>NW L A A n (aO (aO (aO fH 5 (some (eO W.heap.size 32 (opC 4 at' a b t (.slice lo zs.length nc))))) 0 (some ⟨.slice (some (Ad gg 0)) (A.r j).sh.length (A.r j).sh.length,84,3,(A.r j).sh.length,dL ((A.r j).sh.map r3)⟩)) 1 (some ⟨.slice va (A.r j).sh.length vc,84,3,(A.r j).sh.length,dL ((A.r j).sh.map r3)⟩)) V w0 W') W rfl (Or.inl ⟨rfl,rfl,rfl,rfl,rfl⟩) (h.alloc 5 32 _) (λW W' f=>⟨λh=>h.same f,λg h=>h.same f,λg a c h=>h.same f⟩) (λW' hW=>?_) (λW' hW=>hW.Jz hj 0) (λgg W' hW=>hW.JB hj 1) (λgg va vc W' hW=>?_) (λgg va vc W' hW=>?_)).mono ?_
  .rcases hW with hW|⟨g,hW⟩
   .have h9:=hW.Fe (hX _ (Or.inl rfl)) hj;exact⟨h9.1.1,h9.2⟩
   have h9:=hW.Fe (hX _ (Or.inr ⟨_,rfl⟩)) hj;exact⟨h9.1.1,h9.2⟩
  .have r0:=NP.row hW (i:=0) (y:=⟨.slice (some (Ad gg 0)) (A.r j).sh.length (A.r j).sh.length,84,3,(A.r j).sh.length,dL ((A.r j).sh.map r3)⟩) (by simp[aO]);have r1:=NP.row hW (i:=1) (y:=⟨.slice va (A.r j).sh.length vc,84,3,(A.r j).sh.length,dL ((A.r j).sh.map r3)⟩) (by simp[aO]);have h9:=mR (some (Ad gg 0)) va ((A.r j).sh.map r3) (A.r j).sh.length vc W' (nQ (by rw[eI]) r0) (nQ (by rw[eI]) r1) (by rw[eI];omega);rw[eI]at h9;refine h9.mono ?_;rintro e w' ⟨he,q,rfl⟩;exact⟨he,hW.same (fR.drewN q)⟩
  .refine(hW.U6 (i:=0) (gg:=gg) (k:=(A.r j).sh.length) (xs:=dL ((A.r j).sh.map r3)) (by simp[aO]) Mi hV hc).mono ?_;rintro e w' ⟨he,V',hV',h9⟩;exact⟨he,V',hV',_,h9⟩
  rintro e w' ⟨he,V',hV',X',h9⟩;exact⟨he,A,V',(h9.clear).up (by omega),hV',λm K h=>h⟩
 .obtain⟨z,hb⟩:=U9 ok a b ha;exact hbc hb (Or.inr (Or.inr (Or.inr (Or.inl ⟨z.1,z.2,e,rfl,rfl,rfl,rfl⟩))))
 .obtain⟨z,r',hb⟩:=CS ok a;exact hbc hb (Or.inr (Or.inr (Or.inr (Or.inr (Or.inl ⟨z,e,rfl,rfl,rfl,rfl⟩)))))
 .obtain⟨z,r',hb,_⟩:=su ok a;exact hbc hb (Or.inr (Or.inr (Or.inr (Or.inr (Or.inr (Or.inl ⟨z,e,rfl,rfl,rfl,rfl⟩))))))
 .subst e;have hX:aO fH 5 (some (eO W.heap.size 32 (opC 8 at' a b t (.slice lo zs.length nc)))) 5=some (eO W.heap.size 32 (opC 8 at' a b t (.slice lo zs.length nc))):=if_pos rfl;refine(Fh L.nb (L.d j) W.heap.size at' a b t lo zs.length nc (λW'=>NW L A A n (aO fH 5 (some (eO W.heap.size 32 (opC 8 at' a b t (.slice lo zs.length nc))))) V w0 W') (λW'=>∃r' X',NW L (A.dA j r') (A.dA j r') (n+2) X' V w0 W') W rfl (h.alloc 5 32 _) (λW W' f h=>h.same f) (λW' hW=>?_) (λW' hW=>wY hW hj hn hl)).mono ?_
  .have h9:=hW.Fe hX hj;exact⟨h9.1.1,h9.1.2.2.2.2.1⟩
  rintro e w' ⟨he,r',X',h9⟩;exact⟨he,A.dA j r',V,h9.clear,hV.le (by omega),λm K h=>h.dA⟩
 .obtain⟨z,r',hb⟩:=CU ok a;exact hbc hb (Or.inr (Or.inr (Or.inr (Or.inr (Or.inr (Or.inr (Or.inl ⟨z,e,rfl,rfl,rfl,rfl⟩)))))))
 .obtain⟨z,r',hb,_⟩:=uL ok a;exact hbc hb (Or.inr (Or.inr (Or.inr (Or.inr (Or.inr (Or.inr (Or.inr ⟨z,e,rfl,rfl,rfl,rfl⟩)))))))
 subst e;have hX:∀X:Nat->Option Row,X=aO fH 5 (some (eO W.heap.size 32 (opC 11 at' a b t (.slice lo zs.length nc))))∨(∃y,X=aO (aO fH 5 (some (eO W.heap.size 32 (opC 11 at' a b t (.slice lo zs.length nc))))) 0 y)->X 5=some (eO W.heap.size 32 (opC 11 at' a b t (.slice lo zs.length nc))):=λX hX=>by rcases hX with rfl|⟨y,rfl⟩<;>simp[aO]
 have YD:=ok.len;have Mi:(A.r j).ms.length≤12:=by omega
 refine(vC L.nb (L.d j) W.heap.size (L.p j).b (L.r j).b (A.r j).ms.length 25 26 24 79 11 at' a b t (.slice lo zs.length nc) (λW'=>NW L A A n (aO fH 5 (some (eO W.heap.size 32 (opC 11 at' a b t (.slice lo zs.length nc))))) V w0 W') (λW'=>∃V',mV m (c+1) V'∧∃X',NW L A A n X' V' w0 W') (λgg W'=>NW L A A n (aO (aO fH 5 (some (eO W.heap.size 32 (opC 11 at' a b t (.slice lo zs.length nc))))) 0 (some ⟨.slice (some (Ad gg 0)) (A.r j).ms.length (A.r j).ms.length,3,1,(A.r j).ms.length,bV ((A.r j).ms.map Prod.fst)⟩)) V w0 W') (λgg va vc W'=>NW L A A n (aO (aO (aO fH 5 (some (eO W.heap.size 32 (opC 11 at' a b t (.slice lo zs.length nc))))) 0 (some ⟨.slice (some (Ad gg 0)) (A.r j).ms.length (A.r j).ms.length,3,1,(A.r j).ms.length,bV ((A.r j).ms.map Prod.fst)⟩)) 1 (some ⟨.slice va (A.r j).ms.length vc,3,1,(A.r j).ms.length,bV ((A.r j).ms.map Prod.fst)⟩)) V w0 W') W rfl (Or.inr ⟨rfl,rfl,rfl,rfl,rfl⟩) (h.alloc 5 32 _) (λW W' f=>⟨λh=>h.same f,λg h=>h.same f,λg a c h=>h.same f⟩) (λW' hW=>?_) (λW' hW=>hW.JA hj 0) (λgg W' hW=>hW.JC hj 1) (λgg va vc W' hW=>?_) (λgg va vc W' hW=>?_)).mono ?_
 .rcases hW with hW|⟨g,hW⟩
  .have h9:=hW.Fe (hX _ (Or.inl rfl)) hj;exact⟨h9.1.1,h9.2⟩
  have h9:=hW.Fe (hX _ (Or.inr ⟨_,rfl⟩)) hj;exact⟨h9.1.1,h9.2⟩
 .have r0:=NP.row hW (i:=0) (y:=⟨.slice (some (Ad gg 0)) (A.r j).ms.length (A.r j).ms.length,3,1,(A.r j).ms.length,bV ((A.r j).ms.map Prod.fst)⟩) (by simp[aO]);have r1:=NP.row hW (i:=1) (y:=⟨.slice va (A.r j).ms.length vc,3,1,(A.r j).ms.length,bV ((A.r j).ms.map Prod.fst)⟩) (by simp[aO]);have h9:=iX (some (Ad gg 0)) va ((A.r j).ms.map Prod.fst) (A.r j).ms.length vc W' (oC (by rw[eI]) r0) (oC (by rw[eI]) r1) (by rw[eI];omega);rw[eI]at h9;refine h9.mono ?_;rintro e w' ⟨he,q,rfl⟩;exact⟨he,hW.same (fR.drewN q)⟩
 .refine(hW.U7 (i:=0) (gg:=gg) (k:=(A.r j).ms.length) (xs:=bV ((A.r j).ms.map Prod.fst)) (by simp[aO]) Mi hV hc).mono ?_;rintro e w' ⟨he,V',hV',h9⟩;exact⟨he,V',hV',_,h9⟩
 rintro e w' ⟨he,V',hV',X',h9⟩;exact⟨he,A,V',(h9.clear).up (by omega),hV',λm K h=>h⟩
end
end Go.Proofs.YtjceeemlilnplaaGreatDoor
