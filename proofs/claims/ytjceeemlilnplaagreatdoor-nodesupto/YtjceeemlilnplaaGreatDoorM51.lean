import Derived.Test.YtjceeemlilnplaaGreatDoorM49
import Derived.Test.YtjceeemlilnplaaGreatDoorM48
import Derived.Test.YtjceeemlilnplaaGreatDoorM50
import Derived.Test.YtjceeemlilnplaaGreatDoorRows
import Derived.ProofKit
import Derived.OpenShut
import Derived.ChangeOld
import Derived.SizedLaws
import Derived.Deep.Slices
import Derived.Laws.IdiomArrays
import Derived.JoinedCond
set_option maxRecDepth 100000
set_option maxHeartbeats 12800000
set_option linter.all false
namespace Go.Proofs.YtjceeemlilnplaaGreatDoor
open Go.RowKit Go.Maps Go.MuLone
structure Hy where
 k:Int
 at':Int
 a:Int
 b:Int
 t:cC
 lo:Option Addr
 zs:List Int
 c:Nat
structure AP(w:World)(so:Option Addr)(ops:List Hy)(cap:Nat):Prop where
 cap:ops.length≤cap
 len:ops.length≤180000
 row:0<ops.length->∃g off,so=some (Ad g off)∧∀(i:Nat)(o:Hy),ops[i]?=some o->w.cell? (Ad g (off+i*6))=some (.i o.k)∧w.cell? (Ad g (off+i*6+1))=some (.i o.at')∧w.cell? (Ad g (off+i*6+2))=some (.i o.a)∧w.cell? (Ad g (off+i*6+3))=some (.i o.b)∧w.cell? (Ad g (off+i*6+4))=some (.t o.t)∧w.cell? (Ad g (off+i*6+5))=some (.slice o.lo o.zs.length o.c)
 ok:∀(i:Nat)(o:Hy),ops[i]?=some o->AQ w o.lo o.zs o.c∧In64 o.a∧In64 o.b∧In64 o.at'∧o.t.size≤2000000
theorem AP.same{w w':World}{so:Option Addr}{ops:List Hy}{cap:Nat}(h:AP w so ops cap)(f:Fr [] w w'):AP w' so ops cap:=by
 have hc:∀{p:Addr}{v:Value},w.cell? p=some v->w'.cell? p=some v:=λ{p v}h=>f.gb.cell h (by simp);refine⟨h.cap,h.len,λh0=>?_,λi o ho=>?_⟩
 .obtain⟨g,off,e,hg⟩:=h.row h0;refine⟨g,off,e,λi o ho=>?_⟩;obtain⟨h1,h2,h3,h4,h5,h6⟩:=hg i o ho;exact⟨hc h1,hc h2,hc h3,hc h4,hc h5,hc h6⟩
 obtain⟨h1,h2⟩:=h.ok i o ho;exact⟨⟨h1.row.fr f (by simp),h1.nil,h1.len,h1.fit⟩,h2⟩
def Xh(w w':World)(nb:Nat):Prop:=∃L A V m,(L.nb=nb∧L.m=m)∧NW L A A 0 fH V w w'∧eB m 0 A∧mV m 0 V
theorem Hz(c:Cg)(a0 a1 a2:Int)(t:cC)(la:Int)(so:Option Addr)(ops:List Hy)(cap:Nat)(w:World)(hop:AP w so ops cap)
 (hmd:∀W,Cl 4 #[.agg c.cs,.agg #[.i a0,.i a1,.i a2],.t t,.i la] W λe w'=>∃nb,e=.returned (.tuple #[.p nb,.bool true])∧Xh W w' nb):
 Rc 3 #[.agg c.cs,.agg #[.i a0,.i a1,.i a2],.t t,.i la,.slice so ops.length cap] w (.bool true) λw'=>Fr [] w w':=by
 obtain⟨O,hO⟩:=OP;obtain⟨id,bl,np,ev,wt,cp,gr,cl⟩:=c;unfold Cg.cs at hmd⊢;obtain⟨wa,nK⟩:=eX (w.alloc (.cells #[.i id,.i bl,.i np,.i ev,.i wt,.i cp,.t gr,.i cl] 23));obtain⟨w1,hw1⟩:=eX (wa.alloc (.cells #[.i a0,.i a1,.i a2] 24));obtain⟨cb,hcb⟩:=eX w.heap.size;obtain⟨ib,hib⟩:=eX wa.heap.size;have f1:Fr [] w w1:=by rw[<-hw1,<-nK];exact(fR.alloc _).alloc _
 have n1:w1.heap[cb]?=some (.cells #[.i id,.i bl,.i np,.i ev,.i wt,.i cp,.t gr,.i cl] 23 (0,0)):=by rw[<-hw1,<-hcb];refine(ei _ _ _ (by rw[<-nK];simp)).trans ?_;rw[<-nK];exact di w _
 have n2:w1.heap[ib]?=some (.cells #[.i a0,.i a1,.i a2] 24 (0,0)):=by rw[<-hw1,<-hib];exact di wa _
 have q0:cE w1 cb 0 id:=ce n1 rfl;have q1:cE w1 cb 1 bl:=ce n1 rfl;have q2:cE w1 cb 2 np:=ce n1 rfl;have q3:cE w1 cb 3 ev:=ce n1 rfl;have q4:cE w1 cb 4 wt:=ce n1 rfl;have q5:cE w1 cb 5 cp:=ce n1 rfl;have q6:cD w1 cb 6 (.t gr):=ce n1 rfl;have q7:cE w1 cb 7 cl:=ce n1 rfl;have p0:cE w1 ib 0 a0:=ce n2 rfl;have p1:cE w1 ib 1 a1:=ce n2 rfl;have p2:cE w1 ib 2 a2:=ce n2 rfl;have hop1:=hop.same f1;have H4:=Hd hmd;have Xi:=Hj2 hop1 f1;obtain⟨n,hn⟩:=eX ops.length;have hn1:n≤180000:=by rw[<-hn];exact hop.len
 have hn2:n≤cap:=by rw[<-hn];exact hop.cap
 have HN:=Hd hn;rw[hn];have Td:=nK;have Dp:=hw1;clear hmd hop hop1 f1 n1 n2 hn nK hw1;go_enter Tryz.func3,Tryz.ntmps3;go_wp2_with (go_at_call 4;refine(H4.o _).mono ?_;rintro e w2 ⟨nb,rfl,m2⟩;have H2:=Hd m2;clear m2);obtain⟨L,A0,V0,m,⟨hnb,Xj⟩,hW2,hA0,Tt⟩:=H2.o;have Tv:1≤m∧m≤3:=by have h9:=hA0.s.ps;rw[hA0.pl]at h9;exact h9
 obtain⟨T,hT⟩:∃T:Nat->World->Prop,T=λk W=>∃A V,NW L A A (2000*k) fH V w1 W∧eB m (40*k:Nat) A∧mV m k V:=⟨_,rfl⟩;have HT:=Hd hT;have HT0:Hid (T 0 w2):=by rw[hT];exact⟨A0,V0,hW2,hA0,Tt⟩
 have H5:Hid (∀k o W,k<n->ops[k]?=some o->T k W->Rc 5 #[.p nb,.agg #[.i o.k,.i o.at',.i o.a,.i o.b,.t o.t,.slice o.lo o.zs.length o.c]] W (.bool true) λw'=>T (k+1) w'):=by rw[hT,<-hnb];rintro k o W hk ho ⟨A,V,h1,h2,h3⟩;obtain⟨g1,g2,g3,g4,g5⟩:=Xi.o.1.ok k o ho;refine(Ej hO h1 h2 (by omega) (by omega) Xj (by omega) h3 g1 g2 g3 g4 g5).mono ?_;rintro e w' ⟨he,A',V',h4,h5,h6⟩;exact⟨he,A',V',h4.up (by omega),h5.le (by omega),h6⟩
 have H6:Hid (∀k W,k≤n->T k W->Rc 6 #[.p nb] W (.bool true) λw'=>T k w'):=by rw[hT,<-hnb];rintro k W hk ⟨A,V,h1,h2,h3⟩;refine(h1.looks h3 (by omega)).mono ?_;rintro e w' ⟨he,h4⟩;exact⟨he,A,V,h4,h2,h3⟩
 have ZE:Hid (∀k W,T k W->Fr [] w1 W∧nb<W.heap.size):=by rw[hT,<-hnb];rintro k W ⟨A,V,h1,h2,h3⟩;exact⟨h1.OQ,h1.cells.2.2.2.1⟩
 have HL:=Hj3 hnb Xj Tv;clear hT hW2 hA0 Tt H2 H4 hnb Xj Tv q0 q1 q2 q3 q4 q5 q6 q7 p0 p1 p2;go_loopw [13] (λi wr=>∃k:Nat,k≤n∧i=.i k∧Hid (T k wr)) (λi _=>n-(intOf i).toNat)
 case atStart=>exact⟨0,dC _,rfl,HT0⟩
 obtain⟨k,hk,rfl,HK⟩:=hrel;obtain⟨W6,lI⟩:=eY wr;subst lI;clear HT0;by_cases hlt:k<n
 .have hltz:(k:Int)<(n:Int):=by omega
  have k0:(0:Int)≤(k:Int):=by omega
  obtain⟨fK,aaq⟩:=ZE.o k W6 HK.o;have hS:=Xi.o.1.same fK;obtain⟨g,off,hso,hc⟩:=hS.row (by rw[HN.o];omega);obtain⟨o,ho⟩:∃o,ops[k]?=some o:=⟨_,dp (by rw[HN.o];omega)⟩;obtain⟨c0,c1,c2,c3,c4,c5⟩:=hc k o ho;have JV:=Hd (H5.o k o W6 hlt ho HK.o);have HLo:=Hd λW=>H6.o (k+1) W (by omega);obtain⟨kk,hkk⟩:=eX o.k;obtain⟨ka,hka⟩:=eX o.at';obtain⟨oa,hoa⟩:=eX o.a;obtain⟨ob,jT⟩:=eX o.b;obtain⟨ot,hot⟩:=eX o.t;obtain⟨ol,hol⟩:=eX o.lo;obtain⟨oz,Xk⟩:=eX o.zs.length;obtain⟨oc,hoc⟩:=eX o.c;rw[hkk,hka,hoa,jT,hot,hol,Xk,hoc]at JV;rw[hkk]at c0;rw[hka]at c1;rw[hoa]at c2;rw[jT]at c3;rw[hot]at c4;rw[hol,Xk,hoc]at c5;subst hso;clear hS hc ho hkk hka hoa jT hot hol Xk hoc H5 H6 fK;go_wp2_with (first
   |(go_at_call 6;refine(HLo.o _ S5.o).mono ?_;rintro e w6 ⟨rfl,l6⟩;have S6:=Hd l6;clear l6)
   |(go_at_call 5;refine JV.o.mono ?_;rintro e w5 ⟨rfl,l5⟩;have S5:=Hd l5;clear l5))
  go_roundw
  case rel=>exact⟨k+1,by omega,by go_num,S6⟩
  simp[intOf];omega
 have hke:k=n:=by omega
 subst hke;have ZF:=HK.o;rw[HT.o]at ZF;obtain⟨A,V,h1,_,_⟩:=ZF;obtain⟨sg,sc,hsc,hsv,hcs⟩:=h1.sides;obtain⟨M,hM⟩:=eX (L.m+1);rw[hM]at hsc hsv;have RP:M≤4:=by have:=HL.o.2;omega
 obtain⟨R,hR⟩:∃R:Nat->World->Prop,R=λi W=>NW L A A (2000*k+700*i) fH V w1 W:=⟨_,rfl⟩;have xG:Hid (R 0 W6):=by rw[hR];exact h1
 have ZG:Hid (∀i W W',R i W->Fr [] W W'->R i W'):=by rw[hR];exactλi W W' h f=>h.same f
 have HRE:Hid (∀i W,R i W->Fr [] w W):=by rw[hR];exactλi W h=>Xi.o.2.trans h.OQ (by simp)
 have Tw:Hid (∀i W,R i W->W.cell? (Ad nb 0)=some (.slice (some (Ad sg 0)) M sc)∧∀j,j<M->W.cell? (Ad sg j)=some (.p (L.d j))∧W.cell? (Ad (L.d j) 0)=some (.p (L.p j).b)∧W.cell? (Ad (L.d j) 1)=some (.p (L.r j).b)):=by
  rw[hR,<-HL.o.1]
  refineλi W h=>⟨by rw[h.cells.1.1,hsv],λj hj=>⟨hcs _ _ _ _ _ h j (by omega),?_,?_⟩⟩
  .rw[cell_of (h.lm.ds j (by omega))];rfl
  rw[cell_of (h.lm.ds j (by omega))];rfl
 have H7:Hid (∀i j W,i≤4->j<M->R i W->Rc 7 #[.p (L.p j).b,.p (L.r j).b] W (.bool true) λw'=>R (i+1) w'):=by rw[hR];intro i j W hi hj h;refine(El h (by omega) (by omega)).mono ?_;rintro e w' ⟨he,h4⟩;exact⟨he,h4.up (by omega)⟩
 have e0:=(Tw.o 0 W6 xG.o).1;clear hR h1 hcs hsv H5 H6 HT ZE HK hM;go_wp2;go_loopw [16] (λi wr=>∃j:Nat,j≤M∧i=.i j∧Hid (R j wr)) (λi _=>M-(intOf i).toNat)
 case atStart=>exact⟨0,dC _,rfl,xG⟩
 obtain⟨j,hj,rfl,HJ⟩:=hrel;obtain⟨W7,oZ⟩:=eY wr;subst oZ;clear e0;obtain⟨e0,hcj⟩:=Tw.o j W7 HJ.o;by_cases hjt:j<M
 .have hjz:(j:Int)<(M:Int):=by omega
  have j0:(0:Int)≤(j:Int):=by omega
  obtain⟨e1,e2,e3⟩:=hcj j hjt;have G7:=Hd λW=>H7.o j j W (by omega) hjt;have G8:Hid (∀W,R (j+1) W->(W.cell? (Ad nb 0)=some (.slice (some (Ad sg 0)) M sc)∧W.cell? (Ad sg j)=some (.p (L.d j))∧W.cell? (Ad (L.d j) 0)=some (.p (L.p j).b)∧W.cell? (Ad (L.d j) 1)=some (.p (L.r j).b))):=λW hW=>⟨(Tw.o _ W hW).1,(Tw.o _ W hW).2 j hjt⟩;obtain⟨dj,hdj⟩:=eX (L.d j);obtain⟨pj,VE⟩:=eX (L.p j).b;obtain⟨rj,M0⟩:=eX (L.r j).b;rw[hdj]at e1 e2 e3;rw[VE]at e2;rw[M0]at e3;rw[hdj,VE,M0]at G8;rw[VE,M0]at G7;clear hcj hdj VE M0 H7 Tw;go_wp2;go_region_held3 (λw'=>w'.cell? ⟨nb,0,none⟩=some (.slice (some ⟨sg,0,none⟩) M sc)∧w'.cell? ⟨sg,j,none⟩=some (.pointer (some ⟨dj,0,none⟩))∧w'.cell? ⟨dj,0,none⟩=some (.pointer (some ⟨pj,0,none⟩))∧w'.cell? ⟨dj,1,none⟩=some (.pointer (some ⟨rj,0,none⟩)))
   (first
     |exact⟨y0,y1,y2,y3⟩
     |exact⟨e0,e1,e2,e3⟩
     |go_keep)
   (first
     |(go_at_call 7;refine(G7.o _ (by first|exact HJ.o|exact ZG.o _ _ _ HJ.o fR.drew|exact ZG.o _ _ _ HJ.o (fR.drewN _))).mono ?_;rintro e w7 ⟨rfl,u7⟩;have S7:=Hd u7;obtain⟨y0,y1,y2,y3⟩:=G8.o w7 u7;clear u7))
  all_goals
   go_wp2;go_roundw
   case rel=>exact⟨j+1,by omega,by go_num,S7⟩
   simp[intOf];omega
 have Xl:j=M:=by omega
 subst Xl;go_wp2;go_ret;exact⟨rfl,HRE.o _ _ HJ.o⟩
end Go.Proofs.YtjceeemlilnplaaGreatDoor
namespace Go.Proofs.YtjceeemlilnplaaGreatDoor
open Go.ChangeShapes Go.WideShapes Go.ChangeAt Go.RowKit Go.Deep
theorem own:ownKnob Tryz.prog.godebug=none:=by kernel_rfl
theorem ji{H:Type}(d:DataW H):1≤Rows.uptoBulk d:=by
 cases d with
 |lit l=>cases l<;>simp[Rows.uptoBulk]
 |nil=>simp[Rows.uptoBulk]
 |ptr d=>simp[Rows.uptoBulk]
 |slice elems spare=>simp[Rows.uptoBulk]
 |agg parts=>simp[Rows.uptoBulk]
 |iface t d=>simp[Rows.uptoBulk]
 |map entries=>simp[Rows.uptoBulk]
 |held h=>simp[Rows.uptoBulk]
theorem mI{H:Type}{d:DataW H}{l:List (DataW H)}(h:d∈l):Rows.uptoBulk d≤Rows.uptoBulkAll l:=by
 induction l with
 |nil=>cases h
 |cons x r ih=>
  simp only[Rows.uptoBulkAll];cases ek.1 h with
  |inl e=>subst e;omega
  |inr e=>have:=ih e;omega
theorem Ib{H:Type}(l:List (DataW H)):l.length≤Rows.uptoBulkAll l:=by
 induction l with
 |nil=>simp
 |cons x r ih=>have:=ji x;simp only[Rows.uptoBulkAll,il];omega
theorem En{H:Type}(l:List (DataW H))(h:∀d∈l,6≤Rows.uptoBulk d):6*l.length≤Rows.uptoBulkAll l:=by
 induction l with
 |nil=>simp
 |cons x r ih=>
  have h1:=h x (by simp);have h2:=ih (λd hd=>h d (by simp[hd]));simp only[Rows.uptoBulkAll,il];omega
theorem rT{H:Type}(elems spare:List (DataW H)):Rows.uptoBulkAll elems≤Rows.uptoBulk (.slice elems spare):=by simp only[Rows.uptoBulk];omega
section
variable {H:Type}{enc:TypeId×Value->H}{W:World}
theorem open_arr{cs:Array Value}{d:DataW H}{p:List MemPlace}(hs:cs.size=3)(h:DataW.Trod enc Tryz.prog W 0 (λ_=>true) true 24 (.agg cs) d p):
 ∃a b c:Int,cs=#[.i a,.i b,.i c]∧∀k,k<3->In64 (tm [a,b,c] k):=by
 obtain⟨c0,c1,c2,rfl⟩:∃c0 c1 c2,cs=#[c0,c1,c2]:=by
  obtain⟨l⟩:=cs
  match l,hs with
  |[c0,c1,c2],_=>exact⟨c0,c1,c2,rfl⟩
 obtain⟨fuel,hf⟩:=h;obtain⟨y0,y1,y2,n,_,h0,h1,h2⟩:=trod_array3 Tryz.underlying24 (by kernel_rfl) hf;obtain⟨a,e0,_,w0⟩:=DataW.trod_int Tryz.underlying3 h0;obtain⟨b,e1,_,w1⟩:=DataW.trod_int Tryz.underlying3 h1;obtain⟨c,e2,_,w2⟩:=DataW.trod_int Tryz.underlying3 h2;cases e0;cases e1;cases e2;refine⟨a,b,c,rfl,λk hk=>?_⟩;rcases(by omega:k=0∨k=1∨k=2)with rfl|rfl|rfl
 .exact bounds_i64 w0
 .exact bounds_i64 w1
 exact bounds_i64 w2
theorem open_list{fuel:Nat}{v:Value}{d:DataW H}{p:List MemPlace}(h:DataW.trod enc Tryz.prog W 0 (λ_=>true) true fuel 30 [v]=some (d,p)):
 ∃(lo:Option Addr)(zs:List Int)(c:Nat),v=.slice lo zs.length c∧eU W lo zs c∧(lo=none->c=0)∧(∀k off,lo=some (Ad k off)->0<zs.length->k<W.heap.size)∧(∀i,i<zs.length->In64 (tm zs i))∧zs.length≤Rows.uptoBulk d:=by
 rcases open_ints Tryz.underlying30 Tryz.underlying3 (by kernel_rfl) h with⟨hcs,hx⟩|⟨x,l,c,zs,hcs,_,hl,hm,hz,hx,hcell,hwz⟩
 .simp at hcs;exact⟨none,[],0,hcs,⟨by simp,λh=>by simp at h⟩,λ_=>rfl,λk off e=>(by cases e),λi hi=>by simp at hi,by simp⟩
 simp at hcs;have hz':zs.length=c:=by simpa using hz
 have hlen:(zs.take l).length=l:=by simp;omega
 refine⟨some x,zs.take l,c,by rw[hcs,hlen],⟨by omega,λh0=>?_⟩,λe=>(by cases e),λk off e h0=>?_,λi hi=>?_,?_⟩
 .have h0':0<l:=by omega
  obtain⟨b,off,he,hc⟩:=ints_at hcell (by omega);refine⟨b,off,by rw[he],λi hi=>?_⟩;have hi':i<l:=by omega
  rw[hc i (by omega)];congr 2;have e:i<zs.length:=by omega
  simp[tm,hi',e]
 .obtain⟨b,off',he,hc⟩:=ints_at hcell (by omega);have:=dm _ _ (hc 0 (by omega));rw[he]at e;cases e;exact this
 .have hi':i<l:=by omega
  have e:i<zs.length:=by omega
  have ht:tm (zs.take l) i=zs[i]:=by simp[tm,hi',e]
  rw[ht];exact bounds_i64 (hwz _ (eE e))
 have e1:d=.slice (lits .i64 (zs.take l)) (lits .i64 (zs.drop l)):=congrArg Prod.fst hx;rw[e1];have h1:=rT (H:=H) (lits .i64 (zs.take l)) (lits .i64 (zs.drop l));have h2:=Ib (H:=H) (lits .i64 (zs.take l));simp only[lits,eI]at h1 h2;simp only[lits];omega
theorem M4{α:Type}(l:List α)(h:l.length=6):∃c0 c1 c2 c3 c4 c5,l=[c0,c1,c2,c3,c4,c5]:=by
 match l,h with
 |[c0,c1,c2,c3,c4,c5],_=>exact⟨c0,c1,c2,c3,c4,c5,rfl⟩
theorem Tz{P:Program}{w:World}{base:Nat}{spare:Nat->Bool}{held:Bool}{fuel:Nat}{t:TypeId}{cs:List Value}{x:DataW H×List MemPlace}{f0 f1 f2 f3 f4 f5:Field}(ht:P.underlying t=some (.struct #[f0,f1,f2,f3,f4,f5]))(h:DataW.trod enc P w base spare held fuel t cs=some x):
 ∃y0 y1 y2 y3 y4 y5 m,x.1=.agg [y0.1,y1.1,y2.1,y3.1,y4.1,y5.1]∧cs.length=P.cellsOf t∧
  DataW.trod enc P w base spare held m f0.type ((cs.drop f0.offset).take (P.cellsOf f0.type))=some y0∧
  DataW.trod enc P w base spare held m f1.type ((cs.drop f1.offset).take (P.cellsOf f1.type))=some y1∧
  DataW.trod enc P w base spare held m f2.type ((cs.drop f2.offset).take (P.cellsOf f2.type))=some y2∧
  DataW.trod enc P w base spare held m f3.type ((cs.drop f3.offset).take (P.cellsOf f3.type))=some y3∧
  DataW.trod enc P w base spare held m f4.type ((cs.drop f4.offset).take (P.cellsOf f4.type))=some y4∧
  DataW.trod enc P w base spare held m f5.type ((cs.drop f5.offset).take (P.cellsOf f5.type))=some y5:=by
 obtain⟨xs,m,_,hx,hl,hxs,hf⟩:=DataW.trod_struct ht h;obtain⟨y0,y1,y2,y3,y4,y5,rfl⟩:=M4 xs hxs;exact⟨y0,y1,y2,y3,y4,y5,m,by rw[hx];rfl,hl,hf 0 f0 rfl,hf 1 f1 rfl,hf 2 f2 rfl,hf 3 f3 rfl,hf 4 f4 rfl,hf 5 f5 rfl⟩
theorem cells3:Tryz.prog.cellsOf 3=1:=by kernel_rfl
theorem Ic:Tryz.prog.cellsOf 9=1:=by kernel_rfl
theorem K5:Tryz.prog.cellsOf 30=1:=by kernel_rfl
theorem Cq:Tryz.prog.cellsOf 32=6:=by kernel_rfl
theorem Cr{fuel:Nat}{cs:List Value}{d:DataW H}{p:List MemPlace}(h:DataW.trod enc Tryz.prog W 0 (λ_=>true) true fuel 32 cs=some (d,p)):
 ∃o:Hy,cs=[.i o.k,.i o.at',.i o.a,.i o.b,.string o.t,.slice o.lo o.zs.length o.c]∧(o.zs.length≤1048576->AQ W o.lo o.zs o.c∧In64 o.a∧In64 o.b∧In64 o.at')∧o.zs.length≤Rows.uptoBulk d∧o.t.size≤Rows.uptoBulk d∧6≤Rows.uptoBulk d:=by
 obtain⟨y0,y1,y2,y3,y4,y5,m,hx,hl,f0,f1,f2,f3,f4,f5⟩:=Tz Tryz.underlying32 h;rw[Cq]at hl;obtain⟨c0,c1,c2,c3,c4,c5,rfl⟩:=M4 cs hl;have g0:DataW.trod enc Tryz.prog W 0 (λ_=>true) true m 3 [c0]=some y0:=by have h8:DataW.trod enc Tryz.prog W 0 (λ_=>true) true m 3 (List.take (Tryz.prog.cellsOf 3) [c0,c1,c2,c3,c4,c5])=some y0:=f0;rw[cells3]at h8;exact h8
 have g1:DataW.trod enc Tryz.prog W 0 (λ_=>true) true m 3 [c1]=some y1:=by have h8:DataW.trod enc Tryz.prog W 0 (λ_=>true) true m 3 (List.take (Tryz.prog.cellsOf 3) [c1,c2,c3,c4,c5])=some y1:=f1;rw[cells3]at h8;exact h8
 have g2:DataW.trod enc Tryz.prog W 0 (λ_=>true) true m 3 [c2]=some y2:=by have h8:DataW.trod enc Tryz.prog W 0 (λ_=>true) true m 3 (List.take (Tryz.prog.cellsOf 3) [c2,c3,c4,c5])=some y2:=f2;rw[cells3]at h8;exact h8
 have g3:DataW.trod enc Tryz.prog W 0 (λ_=>true) true m 3 [c3]=some y3:=by have h8:DataW.trod enc Tryz.prog W 0 (λ_=>true) true m 3 (List.take (Tryz.prog.cellsOf 3) [c3,c4,c5])=some y3:=f3;rw[cells3]at h8;exact h8
 have g4:DataW.trod enc Tryz.prog W 0 (λ_=>true) true m 9 [c4]=some y4:=by have h8:DataW.trod enc Tryz.prog W 0 (λ_=>true) true m 9 (List.take (Tryz.prog.cellsOf 9) [c4,c5])=some y4:=f4;rw[Ic]at h8;exact h8
 have g5:DataW.trod enc Tryz.prog W 0 (λ_=>true) true m 30 [c5]=some (y5.1,y5.2):=by have h8:DataW.trod enc Tryz.prog W 0 (λ_=>true) true m 30 (List.take (Tryz.prog.cellsOf 30) [c5])=some y5:=f5;rw[K5]at h8;exact h8
 clear f0 f1 f2 f3 f4 f5;obtain⟨k,e0,_,w0⟩:=DataW.trod_int Tryz.underlying3 g0;obtain⟨at',e1,_,w1⟩:=DataW.trod_int Tryz.underlying3 g1;obtain⟨a,e2,_,w2⟩:=DataW.trod_int Tryz.underlying3 g2;obtain⟨b,e3,_,w3⟩:=DataW.trod_int Tryz.underlying3 g3;obtain⟨t,e4,hy4,_⟩:=DataW.trod_string Tryz.underlying9 g4;obtain⟨lo,zs,c,e5,hr,hn,hlow,hz,hb⟩:=open_list g5;cases e0;cases e1;cases e2;cases e3;cases e4;cases e5;refine⟨⟨k,at',a,b,t,lo,zs,c⟩,rfl,λhlen=>⟨⟨hr,hn,hlen,hz⟩,bounds_i64 w2,bounds_i64 w3,bounds_i64 w1⟩,?_⟩;have e1:d=.agg [y0.1,y1.1,y2.1,y3.1,y4.1,y5.1]:=hx;have e9:Rows.uptoBulk y4.1=t.size+1:=by rw[hy4];simp only[Rows.uptoBulk];rw[fk];rfl
 rw[e1];simp only[Rows.uptoBulk,Rows.uptoBulkAll];have o0:=ji y0.1;have o1:=ji y1.1;have o2:=ji y2.1;have o3:=ji y3.1;have o4:=ji y4.1;have o5:=ji y5.1;refine⟨?_,?_,?_⟩
 .show zs.length≤_;omega
 .show t.size≤_;omega
 omega
theorem yP{ao:Option Addr}{len cap:Nat}{d:DataW H}{p:List MemPlace}(h:DataW.Trod enc Tryz.prog W 0 (λ_=>true) true 25 (.slice ao len cap) d p)(hk:Rows.uptoBulk d≤1048576):
 ∃ops:List Hy,ops.length=len∧AP W ao ops cap:=by
 obtain⟨fuel,hf⟩:=h;rcases Go.Deep.open_slice Tryz.underlying25 hf with⟨hcs,hx⟩|⟨a,l,c,m,n,D,Pl,hcs,_,hl,hm,hmm,hx,hall⟩
 .simp[Value.cells]at hcs;obtain⟨rfl,rfl,rfl⟩:=hcs;exact⟨[],rfl,⟨by simp,by simp,λh=>by simp at h,λi o ho=>by simp at ho⟩⟩
 simp[Value.cells]at hcs;obtain⟨rfl,rfl,rfl⟩:=hcs;simp at hmm;subst hmm;have e1:d=.slice ((List.range len).map D) ((List.range (m-len)).map λj=>D (len+j)):=congrArg Prod.fst hx;have hb1:Rows.uptoBulkAll ((List.range len).map D)≤1048576:=by have:=rT ((List.range len).map D) ((List.range (m-len)).map λj=>D (len+j));rw[<-e1]at this;omega
 have hb2:6*len≤1048576:=by have:=En ((List.range len).map D) (λd hd=>by obtain⟨i,hi,rfl⟩:=fm.1 hd;have hi':=gk.1 hi;obtain⟨cs',h1,h2⟩:=hall i (by omega);obtain⟨_,_,_,_,_,h6⟩:=Cr h2;exact h6);simp only[eI,List.length_range]at this;omega
 have hb3:∀i,i<len->Rows.uptoBulk (D i)≤1048576:=λi hi=>by have:=mI (d:=D i) (l:=(List.range len).map D) (fm.2 ⟨i,gk.2 hi,rfl⟩);omega
 have each:∀i,i<len->∃o:Hy,(∀j,j<6->W.cell? ((a.add (i*6)).add j)=[Value.i o.k,.i o.at',.i o.a,.i o.b,.string o.t,.slice o.lo o.zs.length o.c][j]?)∧(AQ W o.lo o.zs o.c∧In64 o.a∧In64 o.b∧In64 o.at')∧o.t.size≤2000000:=λi hi=>by obtain⟨cs',h1,h2⟩:=hall i (by omega);rw[Cq]at h1;obtain⟨o,e,hok,hz,htz,_⟩:=Cr h2;obtain⟨_,_,h3⟩:=World.cells?_some h1;refine⟨o,λj hj=>?_,hok (by have:=hb3 i hi;omega),by have:=hb3 i hi;omega⟩;rw[<-e];exact h3 j hj
 haveI:Inhabited Hy:=⟨⟨0,0,0,0,.empty,none,[],0⟩⟩
 obtain⟨q,hq⟩:=choose_lt each;have hget:∀{i:Nat}{o:Hy},((List.range len).map q)[i]?=some o->i<len∧o=q i:=λ{i o}ho=>by obtain⟨h1,h2⟩:=df.1 ho;simp at h1 h2;exact⟨h1,h2.symm⟩
 refine⟨(List.range len).map q,by simp,⟨by simp;omega,by simp;omega,λh0=>?_,λi o ho=>?_⟩⟩
 .have h0':0<len:=by simpa using h0
  obtain⟨b,off,spot⟩:=a;have hc0:=(hq 0 h0').1 0 (by omega);have hspot:spot=none:=by simpa[Addr.add]using World.cell?_spot hc0
  subst hspot;refine⟨b,off,rfl,λi o ho=>?_⟩;obtain⟨hi,rfl⟩:=hget ho;have hj:∀j,j<6->W.cell? (Ad b (off+i*6+j))=[Value.i (q i).k,.i (q i).at',.i (q i).a,.i (q i).b,.string (q i).t,.slice (q i).lo (q i).zs.length (q i).c][j]?:=λj hj=>by have:=(hq i hi).1 j hj;rw[add_plain,add_plain]at this;exact this
  exact⟨hj 0 (by omega),hj 1 (by omega),hj 2 (by omega),hj 3 (by omega),hj 4 (by omega),hj 5 (by omega)⟩
 obtain⟨hi,rfl⟩:=hget ho;obtain⟨_,⟨h1,h2,h3,h4⟩,h5⟩:=hq i hi;exact⟨h1,h2,h3,h4,h5⟩
theorem M5{α:Type}(l:List α)(h:l.length=8):∃c0 c1 c2 c3 c4 c5 c6 c7,l=[c0,c1,c2,c3,c4,c5,c6,c7]:=by
 match l,h with
 |[c0,c1,c2,c3,c4,c5,c6,c7],_=>exact⟨c0,c1,c2,c3,c4,c5,c6,c7,rfl⟩
theorem K6:Tryz.prog.cellsOf 23=8:=by kernel_rfl
theorem Ia{cs:Array Value}{d:DataW H}{p:List MemPlace}(h:DataW.Trod enc Tryz.prog W 0 (λ_=>true) true 23 (.agg cs) d p):∃c:Cg,cs=c.cs∧(In64 c.id∧In64 c.bl∧In64 c.np∧In64 c.ev∧In64 c.wt∧In64 c.cp∧In64 c.la)∧c.gr.size≤Rows.uptoBulk d:=by
 obtain⟨fuel,h⟩:=h;obtain⟨xs,m,_,hx,hl,hxs,hf⟩:=DataW.trod_struct Tryz.underlying23 h;obtain⟨y0,y1,y2,y3,y4,y5,y6,y7,rfl⟩:=M5 xs hxs;obtain⟨l⟩:=cs;have hl':l.length=8:=by rw[K6]at hl;exact hl
 obtain⟨c0,c1,c2,c3,c4,c5,c6,c7,rfl⟩:=M5 l hl';have g0:DataW.trod enc Tryz.prog W 0 (λ_=>true) true m 3 [c0]=some y0:=by have h8:DataW.trod enc Tryz.prog W 0 (λ_=>true) true m 3 (List.take (Tryz.prog.cellsOf 3) [c0,c1,c2,c3,c4,c5,c6,c7])=some y0:=hf 0 _ rfl;rw[cells3]at h8;exact h8
 have g1:DataW.trod enc Tryz.prog W 0 (λ_=>true) true m 3 [c1]=some y1:=by have h8:DataW.trod enc Tryz.prog W 0 (λ_=>true) true m 3 (List.take (Tryz.prog.cellsOf 3) [c1,c2,c3,c4,c5,c6,c7])=some y1:=hf 1 _ rfl;rw[cells3]at h8;exact h8
 have g2:DataW.trod enc Tryz.prog W 0 (λ_=>true) true m 3 [c2]=some y2:=by have h8:DataW.trod enc Tryz.prog W 0 (λ_=>true) true m 3 (List.take (Tryz.prog.cellsOf 3) [c2,c3,c4,c5,c6,c7])=some y2:=hf 2 _ rfl;rw[cells3]at h8;exact h8
 have g3:DataW.trod enc Tryz.prog W 0 (λ_=>true) true m 3 [c3]=some y3:=by have h8:DataW.trod enc Tryz.prog W 0 (λ_=>true) true m 3 (List.take (Tryz.prog.cellsOf 3) [c3,c4,c5,c6,c7])=some y3:=hf 3 _ rfl;rw[cells3]at h8;exact h8
 have g4:DataW.trod enc Tryz.prog W 0 (λ_=>true) true m 3 [c4]=some y4:=by have h8:DataW.trod enc Tryz.prog W 0 (λ_=>true) true m 3 (List.take (Tryz.prog.cellsOf 3) [c4,c5,c6,c7])=some y4:=hf 4 _ rfl;rw[cells3]at h8;exact h8
 have g5:DataW.trod enc Tryz.prog W 0 (λ_=>true) true m 3 [c5]=some y5:=by have h8:DataW.trod enc Tryz.prog W 0 (λ_=>true) true m 3 (List.take (Tryz.prog.cellsOf 3) [c5,c6,c7])=some y5:=hf 5 _ rfl;rw[cells3]at h8;exact h8
 have g6:DataW.trod enc Tryz.prog W 0 (λ_=>true) true m 9 [c6]=some y6:=by have h8:DataW.trod enc Tryz.prog W 0 (λ_=>true) true m 9 (List.take (Tryz.prog.cellsOf 9) [c6,c7])=some y6:=hf 6 _ rfl;rw[Ic]at h8;exact h8
 have g7:DataW.trod enc Tryz.prog W 0 (λ_=>true) true m 3 [c7]=some y7:=by have h8:DataW.trod enc Tryz.prog W 0 (λ_=>true) true m 3 (List.take (Tryz.prog.cellsOf 3) [c7])=some y7:=hf 7 _ rfl;rw[cells3]at h8;exact h8
 obtain⟨i0,e0,_,w0⟩:=DataW.trod_int Tryz.underlying3 g0;obtain⟨i1,e1,_,w1⟩:=DataW.trod_int Tryz.underlying3 g1;obtain⟨i2,e2,_,w2⟩:=DataW.trod_int Tryz.underlying3 g2;obtain⟨i3,e3,_,w3⟩:=DataW.trod_int Tryz.underlying3 g3;obtain⟨i4,e4,_,w4⟩:=DataW.trod_int Tryz.underlying3 g4;obtain⟨i5,e5,_,w5⟩:=DataW.trod_int Tryz.underlying3 g5;obtain⟨t,e6,hy6,_⟩:=DataW.trod_string Tryz.underlying9 g6;obtain⟨i7,e7,_,w7⟩:=DataW.trod_int Tryz.underlying3 g7;cases e0;cases e1;cases e2;cases e3;cases e4;cases e5;cases e6;cases e7;refine⟨⟨i0,i1,i2,i3,i4,i5,t,i7⟩,rfl,⟨bounds_i64 w0,bounds_i64 w1,bounds_i64 w2,bounds_i64 w3,bounds_i64 w4,bounds_i64 w5,bounds_i64 w7⟩,?_⟩;have e1:d=.agg [y0.1,y1.1,y2.1,y3.1,y4.1,y5.1,y6.1,y7.1]:=congrArg Prod.fst hx;have e9:Rows.uptoBulk y6.1=t.size+1:=by rw[hy6];simp only[Rows.uptoBulk];rw[fk];rfl
 rw[e1];simp only[Rows.uptoBulk,Rows.uptoBulkAll];show t.size≤_;omega
theorem okWide_struct{r:Reach}{b0:Nat}{t:TypeId}{fs:Array Field}{v:Value}(ht:Tryz.prog.underlying t=some (.struct fs))(h:Value.okWide Tryz.prog W r b0 t v):∃cs,v=.agg cs:=by simp only[Value.okWide,ht]at h;obtain⟨cs,h1,_⟩:=h;exact⟨cs,h1⟩
theorem wC{r:Reach}{b0 n:Nat}{t e:TypeId}{v:Value}(ht:Tryz.prog.underlying t=some (.array n e))(h:Value.okWide Tryz.prog W r b0 t v):∃cs,v=.agg cs∧cs.size=Tryz.prog.cellsOf t:=by simp only[Value.okWide,ht]at h;obtain⟨cs,h1,h2,_⟩:=h;exact⟨cs,h1,h2⟩
theorem cells24:Tryz.prog.cellsOf 24=3:=by kernel_rfl
end
end Go.Proofs.YtjceeemlilnplaaGreatDoor
