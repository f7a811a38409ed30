import Derived.Test.YtjceeemlilnplaaGreatDoorM10
import Derived.Test.YtjceeemlilnplaaGreatDoorM04
import Derived.Laws.ResultCell
import Derived.Test.YtjceeemlilnplaaGreatDoorM11
set_option maxRecDepth 100000
set_option maxHeartbeats 12800000
set_option linter.all false
namespace Go.Proofs.YtjceeemlilnplaaGreatDoor
open Go.RowKit Go.Maps Go.MuLone
theorem Sb{w:World}{vb:Nat}{x y:UInt8}(h0:w.cell? (Ad vb 0)=some (u8 x))(h1:w.cell? (Ad vb 1)=some (u8 y)):(convert 134 9 (.slice (some (Ad vb 0)) 2 2)).run Tryz.prog w=.ok (.t ⟨#[x,y]⟩) w:=by
 have:=run_convert_bytes_back (P:=Tryz.prog) w 134 9 5 (Ad vb 0) 2 [x,y] Tryz.underlying134 Tryz.underlying5 Tryz.underlying9 (by
  intro j hj;have hj':j<2:=hj;rcases(by omega:j=0∨j=1)with rfl|rfl
  .exact h0
  exact h1)
 exact this
theorem bT{W w5:World}{x y:UInt8}(f:Fr [] (W.alloc (.cells #[.u (x.toNat:Int),.u (y.toNat:Int)] 5)) w5):(convert 134 9 (.slice (some (Ad W.heap.size 0)) 2 2)).run Tryz.prog w5=.ok (.t ⟨#[x,y]⟩) w5:=by
 refine Sb ?_ ?_
 .rw[du (f.block W.heap.size (by simp) (by simp))];simp[u8]
 rw[du (f.block W.heap.size (by simp) (by simp))];simp[u8]
def aW(k:UInt8)(p num:Int):List UInt8:=k::eH p::(n4 num).list'
theorem lJ(k:UInt8)(p num:Int):(⟨#[k,eH p]⟩++(n4 num).ba:cC)=bU (aW k p num):=by refine gG ?_;simp[bU,aW,B4.ba,B4.list']
theorem L9t(k:UInt8)(p num:Int)(st:cC)(g:Int)(w:World)(X:List UInt8)(hX:(((k.toNat:Int)==68)=true∧st.size≤1000000∧X=st.data.toList)∨((k.toNat:Int)==68)=false∧((((k.toNat:Int)==72)=true∨((k.toNat:Int)==72)=false∧((k.toNat:Int)==71)=true)∧X=(n4 g).list'∨((k.toNat:Int)==72)=false∧((k.toNat:Int)==71)=false∧X=[])):
 Rc 104 #[.agg #[.u (k.toNat:Int),.i p,.i num,.t st,.i g]] w (.t (bU (aW k p num++X))) λw'=>Fr [] w w':=by
 have HQ:=Hd hX;clear hX;obtain⟨bx,hbx⟩:=eX w.heap.size;obtain⟨w0,hw0⟩:=eX (w.alloc (.cells #[.u (k.toNat:Int),.i p,.i num,.t st,.i g] 192));have b0:w0.heap[bx]?=some (.cells #[.u (k.toNat:Int),.i p,.i num,.t st,.i g] 192 (0,0)):=by rw[<-hw0,<-hbx];exact di w _
 have F0:Fr [] w w0:=by rw[<-hw0];exact fR.alloc _
 have HB:Hid (Fr [] w w0∧bx<w0.heap.size):=⟨F0,(cY.1 b0).1⟩;have HX:Hid (∀W,Fr [] w0 W->W.cell? (Ad bx 0)=some (.u (k.toNat:Int))∧W.cell? (Ad bx 1)=some (.i p)∧W.cell? (Ad bx 2)=some (.i num)∧W.cell? (Ad bx 3)=some (.t st)∧W.cell? (Ad bx 4)=some (.i g)):=λW hW=>by have hh:=(hW.block bx (cY.1 b0).1 (by simp)).trans b0;exact⟨ce hh rfl,ce hh rfl,ce hh rfl,ce hh rfl,ce hh rfl⟩
 have x0:=(HX.o w0 fR).1;have x1:=(HX.o w0 fR).2.1;have x2:=(HX.o w0 fR).2.2.1;have lbx:bx<w0.heap.size:=HB.o.2;have HU:=Hd λW=>bf num W;have Kq:=Hd λW=>bf g W;obtain⟨ba,hba⟩:=eX (n4 num).ba;obtain⟨bg,hbg⟩:=eX (n4 g).ba;have hsa:ba.size=4:=by rw[<-hba];rfl
 have hsg:bg.size=4:=by rw[<-hbg];rfl
 rw[hba]at HU;rw[hbg]at Kq;have hwr:IntKind.u8.wrap p=((eH p).toNat:Int):=by rw[<-dX];simp[IntKind.wrap,IntKind.bits,IntKind.signed]
 have Gn:p%256=((eH p).toNat:Int):=dX p;obtain⟨yp,hyp⟩:=eX (eH p);rw[hyp]at hwr Gn;have hsz:(⟨#[k,yp]⟩:cC).size=2:=rfl;have hs6:(⟨#[k,yp]⟩++ba:cC).size=6:=by rw[fY,hsz,hsa]
 have HY:Hid ((⟨#[k,yp]⟩++ba:cC)=bU (aW k p num)∧bg=bU (n4 g).list'∧bU st.data.toList=st):=by refine⟨?_,by rw[<-hbg];rfl,lM st⟩;rw[<-hba,<-hyp];exact lJ k p num
 have hcv:∀W:World,(convert 134 9 (.slice (some (Ad W.heap.size 0)) 2 2)).run Tryz.prog (W.alloc (.cells #[.u (k.toNat:Int),.u (yp.toNat:Int)] 5))=.ok (.t ⟨#[k,yp]⟩) (W.alloc (.cells #[.u (k.toNat:Int),.u (yp.toNat:Int)] 5)):=λW=>bT fR;have xH:(convert 134 9 (.slice (some (Ad w0.heap.size 0)) 2 2)).run Tryz.prog (w0.alloc (.cells #[.u (k.toNat:Int),.u (yp.toNat:Int)] 5)).drew=.ok (.t ⟨#[k,yp]⟩) (w0.alloc (.cells #[.u (k.toNat:Int),.u (yp.toNat:Int)] 5)).drew:=bT ((Fr.refl [] _).drew);obtain⟨hd,hhd⟩:=eX (⟨#[k,yp]⟩++ba:cC);have hs7:hd.size=6:=by rw[<-hhd];exact hs6
 rw[hhd]at HY;have dV:=hw0;clear hw0 b0 F0 hba hbg hyp;go_enter Tryz.func104,Tryz.ntmps104;go_wp2;go_region_held (λw'=>w'.cell? (Ad bx 0)=some (.u (k.toNat:Int))∧w'.cell? (Ad bx 1)=some (.i p)∧w'.cell? (Ad bx 2)=some (.i num))
  (first
    |go_keep
    |(go_split_ands;refine⟨?_,?_,?_⟩<;>(rw[du (f5.block bx (dm _ (Ad bx 0) (by assumption)) (by simp))];assumption)))
  (first
  |(go_at_call_of 110 (Value.i num);refine(HU.o _).mono ?_;rintro e w5 ⟨rfl,f5⟩;try have Dr:=bT (x:=k) (y:=yp) (((Fr.refl [] _).drew).tr f5)))
 all_goals
  have nJ:Hid (Fr [] w0 w5):=by first|exact((Fr.refl [] w0).alloc _).drew.tr f5|exact(Fr.refl [] w0).drew.tr f5
  have y0:=(HX.o w5 nJ.o).1;have y3:=(HX.o w5 nJ.o).2.2.2.1;have y4:=(HX.o w5 nJ.o).2.2.2.2;have Wt:bx<w5.heap.size:=dm _ _ y0;clear f5 hcv xH hwr Gn;rcases HQ.o with⟨h1,hst,rfl⟩|⟨h1,⟨h2|⟨h2,h3⟩,rfl⟩|⟨h2,h3,rfl⟩⟩
  .clear HQ;have hadd:¬(9223372036854775807<6+st.size):=by omega
   go_wp2;go_ret;exact⟨congrArg (λt=>Ending.returned (Value.t t)) (show hd++st=bU (aW k p num++st.data.toList) by rw[<-nk,<-HY.o.1,HY.o.2.2]),(by first|exact HB.o.1.tr nJ.o|exact(HB.o.1.tr nJ.o).alloc _)⟩
  .clear HQ;go_wp2_with (go_at_call_of 110 (Value.i g);refine(Kq.o _).mono ?_;rintro e w7 ⟨rfl,f7⟩;have H7:Hid (Fr [] w w7):=(by first|exact(HB.o.1.tr nJ.o).tr f7|exact((HB.o.1.tr nJ.o).alloc _).tr f7);clear f7);go_ret;exact⟨congrArg (λt=>Ending.returned (Value.t t)) (show hd++bg=bU (aW k p num++(n4 g).list') by rw[<-nk,<-HY.o.1,<-HY.o.2.1]),H7.o⟩
  .clear HQ;go_wp2_with (go_at_call_of 110 (Value.i g);refine(Kq.o _).mono ?_;rintro e w7 ⟨rfl,f7⟩;have H7:Hid (Fr [] w w7):=(by first|exact(HB.o.1.tr nJ.o).tr f7|exact((HB.o.1.tr nJ.o).alloc _).tr f7);clear f7);go_ret;exact⟨congrArg (λt=>Ending.returned (Value.t t)) (show hd++bg=bU (aW k p num++(n4 g).list') by rw[<-nk,<-HY.o.1,<-HY.o.2.1]),H7.o⟩
  clear HQ;go_wp2;go_ret;exact⟨congrArg (λt=>Ending.returned (Value.t t)) (by rw[gn];exact HY.o.1),(by first|exact HB.o.1.tr nJ.o|exact(HB.o.1.tr nJ.o).alloc _)⟩
theorem Gm(k:UInt8)(p num:Int)(st:cC)(g:Int)(w:World)(h1:((k.toNat:Int)==68)=false)(h2:((k.toNat:Int)==72)=false)(h3:((k.toNat:Int)==71)=false):
 Rc 104 #[.agg #[.u (k.toNat:Int),.i p,.i num,.t st,.i g]] w (.t (bU (aW k p num))) λw'=>Fr [] w w':=
 by have h:=L9t k p num st g w [] (.inr ⟨h1,.inr ⟨h2,h3,rfl⟩⟩);rwa[gn]at h
theorem DY(k:UInt8)(p num:Int)(st:cC)(g:Int)(w:World)(h1:((k.toNat:Int)==68)=true)(hst:st.size≤1000000):
 Rc 104 #[.agg #[.u (k.toNat:Int),.i p,.i num,.t st,.i g]] w (.t (bU (aW k p num++st.data.toList))) λw'=>Fr [] w w':=
 L9t k p num st g w _ (.inl ⟨h1,hst,rfl⟩)
theorem xZ(k:UInt8)(p num:Int)(st:cC)(g:Int)(w:World)(h1:((k.toNat:Int)==68)=false)(h2:((k.toNat:Int)==72)=true):
 Rc 104 #[.agg #[.u (k.toNat:Int),.i p,.i num,.t st,.i g]] w (.t (bU (aW k p num++(n4 g).list'))) λw'=>Fr [] w w':=
 L9t k p num st g w _ (.inr ⟨h1,.inl ⟨.inl h2,rfl⟩⟩)
theorem Gq(k:UInt8)(p num:Int)(st:cC)(g:Int)(w:World)(h1:((k.toNat:Int)==68)=false)(h2:((k.toNat:Int)==72)=false)(h3:((k.toNat:Int)==71)=true):
 Rc 104 #[.agg #[.u (k.toNat:Int),.i p,.i num,.t st,.i g]] w (.t (bU (aW k p num++(n4 g).list'))) λw'=>Fr [] w w':=
 L9t k p num st g w _ (.inr ⟨h1,.inl ⟨.inr ⟨h2,h3⟩,rfl⟩⟩)
theorem Pp{w w':World}{rb:Nat}{t:cC}{sh:Bool}(h:gQ w rb t sh)(hf:Fr [] w w'):gQ w' rb t sh:=by unfold gQ at h⊢;rw[hf.block rb (cY.1 h).1 (by simp)];exact h
abbrev lcs(k p n:Int)(s:cC)(g:Int):Array Value:=#[.u k,.i p,.i n,.t s,.i g]
def kZ(w W:World)(rb lb bx:Nat)(t:cC)(sh:Bool)(k p n:Int)(s:cC)(g:Int):Prop:=gQ W rb t sh∧W.heap[lb]?=some (.cells (lcs k p n s g) 192 (0,0))∧W.heap[bx]?=some (.cells (lcs 0 0 0 ⟨#[]⟩ 0) 192 (0,0))∧Fr [] w W∧lb≠rb∧bx≠rb∧bx≠lb∧w.heap.size≤rb∧w.heap.size≤lb∧w.heap.size≤bx
section
variable {w W W':World}{rb lb bx:Nat}{t t':cC}{sh sh':Bool}{k p n:Int}{s:cC}{g:Int}
theorem kZ.read(h:kZ w W rb lb bx t sh k p n s g)(r:gQ W' rb t' sh')(f:Fr [rb] W W'):kZ w W' rb lb bx t' sh' k p n s g:=by obtain⟨h1,h2,h3,h4,h5,h6,h7,h8,h9,h0⟩:=h;exact⟨r,(f.block lb (cY.1 h2).1 (by simpa using h5)).trans h2,(f.block bx (cY.1 h3).1 (by simpa using h6)).trans h3,h4.trans f (λk hk=>Or.inr (by simp at hk;subst hk;exact h8)),h5,h6,h7,h8,h9,h0⟩
theorem kZ.ny(h:kZ w W rb lb bx t sh k p n s g)(s':cC):kZ w (W.setCell (Ad lb 3) (.t s')) rb lb bx t sh k p n s' g:=by
 obtain⟨h1,h2,h3,h4,h5,h6,h7,h8,h9,h0⟩:=h;refine⟨?_,?_,?_,h4.setCell _ (Or.inr h9),h5,h6,h7,h8,h9,h0⟩
 .unfold gQ at h1⊢;rw[de _ _ _ _ (Ne.symm h5)];exact h1
 .rw[dy _ _ _ _ _ _ h2];rfl
 rw[de _ _ _ _ h7];exact h3
theorem kZ.XW(h:kZ w W rb lb bx t sh k p n s g)(g':Int):kZ w (W.setCell (Ad lb 4) (.i g')) rb lb bx t sh k p n s g':=by
 obtain⟨h1,h2,h3,h4,h5,h6,h7,h8,h9,h0⟩:=h;refine⟨?_,?_,?_,h4.setCell _ (Or.inr h9),h5,h6,h7,h8,h9,h0⟩
 .unfold gQ at h1⊢;rw[de _ _ _ _ (Ne.symm h5)];exact h1
 .rw[dy _ _ _ _ _ _ h2];rfl
 rw[de _ _ _ _ h7];exact h3
theorem kZ.cells(h:kZ w W rb lb bx t sh k p n s g):(W.cell? (Ad lb 0)=some (.u k)∧W.cell? (Ad lb 1)=some (.i p)∧W.cell? (Ad lb 2)=some (.i n)∧W.cell? (Ad lb 3)=some (.t s)∧W.cell? (Ad lb 4)=some (.i g)∧W.frozen? (Ad lb 3)=false∧W.frozen? (Ad lb 4)=false)∧(W.cell? (Ad bx 0)=some (.u 0)∧W.cell? (Ad bx 1)=some (.i 0)∧W.cell? (Ad bx 2)=some (.i 0)∧W.cell? (Ad bx 3)=some (.t ⟨#[]⟩)∧W.cell? (Ad bx 4)=some (.i 0))∧∀j,W.frozen? (Ad bx j)=false:=by obtain⟨h1,h2,h3,_⟩:=h;exact⟨⟨ce h2 rfl,ce h2 rfl,ce h2 rfl,ce h2 rfl,ce h2 rfl,ay h2 _,ay h2 _⟩,⟨ce h3 rfl,ce h3 rfl,ce h3 rfl,ce h3 rfl,ce h3 rfl⟩,λj=>ay h3 _⟩
end
def FH(t:cC×Bool)(m:Nat):cC×Bool:=(oH t.1 m,wG t.1 t.2 m)
def LA(t:cC×Bool)(m:Nat):Int:=(bq (dU t.1 m).data.toList:Int)
def pA(t:cC):cC×Bool:=(t,false)
def pB(t:cC):cC×Bool:=FH (pA t) 1
def pC(t:cC):cC×Bool:=FH (pB t) 1
def pD(t:cC):cC×Bool:=FH (pC t) 4
def lK(t:cC):Int:=LA (pA t) 1
def lP(t:cC):Int:=LA (pB t) 1
def lN(t:cC):Int:=LA (pC t) 4
def pE(t:cC):cC×Bool:=if lK t=68 then FH (pD t) (pD t).1.size else if lK t=72∨lK t=71 then FH (pD t) 4 else pD t
def lS(t:cC):cC:=if lK t=68 then dU (pD t).1 (pD t).1.size else⟨#[]⟩
def lG(t:cC):Int:=if lK t=72∨lK t=71 then LA (pD t) 4 else 0
def lO(t:cC):Bool:=decide (lK t=65∨lK t=68∨lK t=72∨lK t=71)&&(decide ((pE t).1.size=0)&&!(pE t).2)&&decide (lP t<3)
def kA(k:Int):Prop:=k=65
def kD(k:Int):Prop:=k=68
def kH(k:Int):Prop:=k=72∨k=71
theorem CY:kA 65:=rfl
theorem CZ:kD 68:=rfl
theorem C8:kH 72:=Or.inl rfl
theorem C9:kH 71:=Or.inr rfl
theorem qE(t:cC×Bool):0≤LA t 1∧LA t 1<256:=by
 unfold LA;have h:=gK t.1 1;have h2:=kM (dU t.1 1).data.toList _ (eh _);rw[kf]at h2;have h3:(dU t.1 1).data.toList.length≤1:=by
  have:(dU t.1 1).data.toList.length=(dU t.1 1).size:=by simp
  omega
 have h4:(256:Nat)^(dU t.1 1).data.toList.length≤256^1:=Nat.pow_le_pow_right (by omega) h3;omega
theorem gJ(t:cC×Bool)(m:Nat):(FH t m).1.size≤t.1.size:=ze _ _
theorem Ij(t:cC)(w:World)(hsz:t.size≤2000000):
 Rc 94 #[.t t] w (.tuple #[.agg (if lO t then lcs (lK t) (lP t) (lN t) (lS t) (lG t)else lcs 0 0 0 ⟨#[]⟩ 0),.bool (lO t)]) λw'=>Fr [] w w':=by
 obtain⟨w0,hw0⟩:=eX (w.alloc (.cells (lcs 0 0 0 ⟨#[]⟩ 0) 192));obtain⟨bx,hbx⟩:=eX w.heap.size;have b0:w0.heap[bx]?=some (.cells (lcs 0 0 0 ⟨#[]⟩ 0) 192 (0,0)):=by rw[<-hw0,<-hbx];exact di w _
 have ZU:bx<w0.heap.size:=(cY.1 b0).1;obtain⟨rb,hrb⟩:=eX w0.heap.size;have hs1:=gJ (pA t) 1;have hs2:=gJ (pB t) 1;have hs3:=gJ (pC t) 4;have hs0:(pA t).1.size=t.size:=rfl;have hr1:=qE (pA t);have hr2:=qE (pB t);have HN:Hid (Rc 128 #[.t t] w0 (.p rb) λw'=>gQ w' rb t false∧Fr [rb] w0 w'):=by rw[<-hrb];refine(jO t w0).mono ?_;rintro e w' ⟨he,r,f⟩;exact⟨he,r,f.mono (by simp)⟩
 have HR:Hid (∀W(T:cC×Bool),T.1.size≤2000000->gQ W rb T.1 T.2->Fr [rb] w0 W->Rc 129 #[.p rb] W (.i (LA T 1)) λw'=>gQ w' rb (FH T 1).1 (FH T 1).2∧Fr [rb] w0 w'):=λW T hT h f=>by refine(uP rb T.1 T.2 W h (by omega)).mono ?_;rintro e w' ⟨he,r,f'⟩;exact⟨he,r,f.trans f' (λk hk=>Or.inl hk)⟩
 have H1:Hid (∀W,gQ W rb t false->Fr [rb] w0 W->Rc 129 #[.p rb] W (.i (lK t)) λw'=>gQ w' rb (pB t).1 (pB t).2∧Fr [rb] w0 w'):=λW h f=>HR.o W (pA t) hsz h f;have H2:Hid (∀W,gQ W rb (pB t).1 (pB t).2->Fr [rb] w0 W->Rc 129 #[.p rb] W (.i (lP t)) λw'=>gQ w' rb (pC t).1 (pC t).2∧Fr [rb] w0 w'):=λW h f=>HR.o W (pB t) (by show(FH (pA t) 1).1.size≤_;omega) h f;have H3:Hid (∀W,gQ W rb (pC t).1 (pC t).2->Fr [rb] w0 W->Rc 130 #[.p rb] W (.i (lN t)) λw'=>kZ w (w'.alloc (.cells (lcs (lK t) (lP t) (lN t) ⟨#[]⟩ 0) 192)) rb w'.heap.size bx (pD t).1 (pD t).2 (lK t) (lP t) (lN t) ⟨#[]⟩ 0):=λW h f=>by
  refine(lY rb _ _ W h (by show(FH (pB t) 1).1.size≤_;have:(pB t).1.size≤(pA t).1.size:=hs1;omega)).mono ?_;rintro e w' ⟨he,r,f'⟩;have f2:=f.trans f' (λk hk=>Or.inl hk);have e2:=f2.size;have e3:rb<w'.heap.size:=(cY.1 r).1;have f3:Fr [] w (w'.alloc (.cells (lcs (lK t) (lP t) (lN t) ⟨#[]⟩ 0) 192)):=by
   have f4:Fr [] w w0:=by rw[<-hw0];exact fR.alloc _
   exact(f4.trans f2 (λk hk=>Or.inr (by simp at hk;omega))).alloc _
  refine⟨he,Pp r (fR.alloc _),di w' _,?_,f3,by omega,by omega,by omega,by omega,by omega,by omega⟩;rw[ei _ _ _ (by omega),f2.block bx ZU (by simp;omega)];exact b0
 obtain⟨k,hk⟩:=eX (lK t);obtain⟨p,hp⟩:=eX (lP t);obtain⟨n,hn⟩:=eX (lN t);obtain⟨tD,QX⟩:=eX (pD t).1;obtain⟨sD,VO⟩:=eX (pD t).2;have xw:pD t=(tD,sD):=by rw[<-QX,<-VO]
 obtain⟨tE,Ui⟩:=eX (pE t).1;obtain⟨sE,Uj⟩:=eX (pE t).2;obtain⟨S,hS⟩:=eX (lS t);obtain⟨g,hg⟩:=eX (lG t);obtain⟨en,hen⟩:∃x,(decide (tE.size=0)&&!sE)=x:=⟨_,rfl⟩;have hO:lO t=(decide (k=65∨k=68∨k=72∨k=71)&&en&&decide (p<3)):=by unfold lO;rw[hk,hp,Ui,Uj,hen]
 have XY:tD.size≤2000000:=by rw[<-QX];have a1:(pB t).1.size≤(pA t).1.size:=hs1;have a2:(pC t).1.size≤(pB t).1.size:=hs2;have a3:(pD t).1.size≤(pC t).1.size:=hs3;omega
 have HL:Hid (∀W lb k p n s g,kZ w W rb lb bx tD sD k p n s g->Rc 133 #[.p rb] W (.i tD.size) λw'=>w'=W):=λW lb k p n s g h=>zf rb _ _ W h.1;have HT:Hid (kD k->∀W lb,kZ w W rb lb bx tD sD k p n ⟨#[]⟩ 0->Rc 132 #[.p rb,.i tD.size] W (.t S) λw'=>kZ w w' rb lb bx tE sE k p n ⟨#[]⟩ 0∧kZ w (w'.setCell (Ad lb 3) (.t S)) rb lb bx tE sE k p n S g):=λe W lb h=>by
  have e1:lK t=68:=by rw[hk];exact e
  have h9:=mK rb tD sD tD.size W h.1 (by omega) (by omega);have a1:dU tD tD.size=S:=by rw[<-hS];unfold lS;rw[if_pos e1,QX]
  have a2:oH tD tD.size=tE:=by rw[<-Ui];unfold pE;rw[if_pos e1,xw];rfl
  have a3:wG tD sD tD.size=sE:=by rw[<-Uj];unfold pE;rw[if_pos e1,xw];rfl
  have a4:g=0:=by rw[<-hg];unfold lG;rw[if_neg (by rw[e1];decide)]
  rw[a1,a2,a3]at h9;refine h9.mono ?_;rintro e w' ⟨he,r,f⟩;have h8:=h.read r f;exact⟨he,h8,by rw[a4];exact h8.ny S⟩
 have HG:Hid (kH k->∀W lb,kZ w W rb lb bx tD sD k p n ⟨#[]⟩ 0->Rc 130 #[.p rb] W (.i g) λw'=>kZ w w' rb lb bx tE sE k p n ⟨#[]⟩ 0∧kZ w (w'.setCell (Ad lb 4) (.i g)) rb lb bx tE sE k p n S g):=λe W lb h=>by
  have e1:lK t=72∨lK t=71:=by rw[hk];exact e
  have e2:lK t≠68:=by rcases e1 with e|e<;>rw[e]<;>decide
  have h9:=lY rb tD sD W h.1 (by omega);have a1:(bq (dU tD 4).data.toList:Int)=g:=by rw[<-hg];unfold lG;rw[if_pos e1,xw];rfl
  have a2:oH tD 4=tE:=by rw[<-Ui];unfold pE;rw[if_neg e2,if_pos e1,xw];rfl
  have a3:wG tD sD 4=sE:=by rw[<-Uj];unfold pE;rw[if_neg e2,if_pos e1,xw];rfl
  have a4:S=⟨#[]⟩:=by rw[<-hS];unfold lS;rw[if_neg e2]
  rw[a1,a2,a3]at h9;refine h9.mono ?_;rintro e w' ⟨he,r,f⟩;have h8:=h.read r f;exact⟨he,h8,by rw[a4];exact h8.XW g⟩
 have HA:Hid (kA k->∀W lb,kZ w W rb lb bx tD sD k p n ⟨#[]⟩ 0->kZ w W rb lb bx tE sE k p n S g):=λe W lb h=>by
  have e1:lK t=65:=by rw[hk];exact e
  have e2:¬(lK t=72∨lK t=71):=by rw[e1];decide
  have e3:lK t≠68:=by rw[e1];decide
  have a1:g=0:=by rw[<-hg];unfold lG;rw[if_neg e2]
  have a2:tD=tE:=by rw[<-Ui];unfold pE;rw[if_neg e3,if_neg e2,QX]
  have a3:sD=sE:=by rw[<-Uj];unfold pE;rw[if_neg e3,if_neg e2,VO]
  have a4:S=⟨#[]⟩:=by rw[<-hS];unfold lS;rw[if_neg e3]
  rw[<-a2,<-a3,a1,a4];exact h
 have HE:Hid (∀W lb,kZ w W rb lb bx tE sE k p n S g->Rc 131 #[.p rb] W (.bool en) λw'=>w'=W):=λW lb h=>by rw[<-hen];exact pq rb _ _ W h.1
 have hS0:k≠68->S=⟨#[]⟩:=λe=>by rw[<-hS];unfold lS;rw[hk,if_neg e]
 have hg0:¬(k=72∨k=71)->g=0:=λe=>by rw[<-hg];unfold lG;rw[hk,if_neg e]
 have hkr:0≤k∧k<256:=by rw[<-hk];exact hr1
 have hk8:IntKind.u8.wrap k=k:=by simp[IntKind.wrap,IntKind.bits,IntKind.signed];omega
 have hbw:w.heap.size≤bx:=by omega
 rw[hk,hp,hn]at H3;rw[hk]at H1;rw[hp]at H2;rw[QX,VO]at H3;rw[hk,hp,hn,hS,hg,hO];obtain⟨tB,ZV⟩:=eX (pB t).1;obtain⟨sB,hsB⟩:=eX (pB t).2;obtain⟨tC,ZW⟩:=eX (pC t).1;obtain⟨sC,ZX⟩:=eX (pC t).2;rw[ZV,hsB]at H1 H2;rw[ZW,ZX]at H2 H3;obtain⟨sz,LB⟩:=eX tD.size;rw[LB]at HL HT;clear hs1 hs2 hs3 hs0 hr1 hr2 HR hk hp hn QX VO xw Ui Uj hS hg hen hO XY b0 ZU hrb ZV hsB ZW ZX LB;obtain⟨ok,hok⟩:∃ok,(decide (k=65∨k=68∨k=72∨k=71)&&en&&decide (p<3))=ok:=⟨_,rfl⟩;rw[hok];by_cases hkk:k=65∨k=68∨k=72∨k=71
 case' pos=>
  have hcs:en=false∨(en=true∧3≤p)∨(en=true∧p<3):=by cases en<;>simp;omega
  rw[decide_eq_true hkk]at hok;rcases hcs with e1|⟨e1,e2⟩|⟨e1,e2⟩
  case' inl=>
   have ho:ok=false:=by rw[<-hok,e1];simp
   clear hS0 hg0
  case' inr.inl=>
   have ho:ok=false:=by rw[<-hok,e1,kB (by omega)];simp
   clear hS0 hg0
  case' inr.inr=>have ho:ok=true:=by rw[<-hok,e1,decide_eq_true e2];rfl
  all_goals
   subst ho;subst e1;clear hok;rcases hkk with e|e|e|e;all_goals
    subst e;try(have a:=hS0 (by omega);subst a)
    try(have a:=hg0 (by omega);subst a)
    try clear hS0 hg0
 case' neg=>
  clear hS0 hg0;rw[kB hkk]at hok;have ho:ok=false:=by rw[<-hok];simp
  subst ho;clear hok;have q1:(k==65)=false:=by simp;omega
  have q2:(k==68)=false:=by simp;omega
  have q3:(k==72)=false:=by simp;omega
  have q4:(k==71)=false:=by simp;omega
 all_goals
  go_enter Tryz.func94,Tryz.ntmps94;go_wp2_with (first
   |(go_at_call 131;refine(HE.o _ _ tN.o).mono ?_;rintro e w' ⟨rfl,hw'⟩;subst w')
   |(go_at_call 133;refine(HL.o _ _ _ _ _ _ _ p8.o).mono ?_;rintro e w' ⟨rfl,hw'⟩;subst w')
   |(go_at_call 132;refine(HT.o CZ _ _ p8.o).mono ?_;rintro e w6 ⟨rfl,a6,b6⟩;have tN:=Hd b6;obtain⟨⟨v0,v1,v2,v3,v4,Pq,Pt⟩,⟨x0,x1,x2,x3,x4⟩,zz⟩:=a6.cells;have t0:=zz 0;have t1:=zz 1;have t2:=zz 2;have t3:=zz 3;have t4:=zz 4;clear zz a6 b6)
   |(go_at_call 130;(first|refine(HG.o C8 _ _ p8.o).mono ?_|refine(HG.o C9 _ _ p8.o).mono ?_);rintro e w6 ⟨rfl,a6,b6⟩;have tN:=Hd b6;obtain⟨⟨v0,v1,v2,v3,v4,Pq,Pt⟩,⟨x0,x1,x2,x3,x4⟩,zz⟩:=a6.cells;have t0:=zz 0;have t1:=zz 1;have t2:=zz 2;have t3:=zz 3;have t4:=zz 4;clear zz a6 b6)
   |(go_at_call 130;refine(H3.o _ G3.o.1 G3.o.2).mono ?_;rintro e w4 ⟨rfl,a4⟩;have p8:=Hd a4;(try(have tN:=Hd (HA.o CY _ _ a4)));obtain⟨⟨u0,u1,u2,u3,u4,XZ,X3⟩,⟨y0,y1,y2,y3,y4⟩,z⟩:=a4.cells;have z0:=z 0;have z1:=z 1;have z2:=z 2;have z3:=z 3;have z4:=z 4;have hne1:bx≠w4.heap.size:=a4.2.2.2.2.2.2.1;have hne2:w4.heap.size≠bx:=Ne.symm a4.2.2.2.2.2.2.1;clear z a4)
   |(go_at_call 129;refine(H2.o _ G2.o.1 G2.o.2).mono ?_;rintro e w3 ⟨rfl,a3⟩;have G3:=Hd a3;clear a3)
   |(go_at_call 129;refine(H1.o _ G1.o.1 G1.o.2).mono ?_;rintro e w2 ⟨rfl,a2⟩;have G2:=Hd a2;clear a2)
   |(go_at_call 128;refine HN.o.mono ?_;rintro e w1 ⟨rfl,a1⟩;have G1:=Hd a1;clear a1))
  first
   |refine ez (v:=.tuple #[.agg (lcs 0 0 0 ⟨#[]⟩ 0),.bool false]) ?_ rfl ⟨rfl,?_⟩
   |refine ez (v:=.tuple #[.agg (lcs _ p n _ _),.bool true]) ?_ rfl ⟨rfl,?_⟩
  .rw[results_cell_tmp rfl];go_simp
  first|exact((((tN.o.2.2.2.1.setCell _ (Or.inr hbw)).setCell _ (Or.inr hbw)).setCell _ (Or.inr hbw)).setCell _ (Or.inr hbw)).setCell _ (Or.inr hbw)|exact((((p8.o.2.2.2.1.setCell _ (Or.inr hbw)).setCell _ (Or.inr hbw)).setCell _ (Or.inr hbw)).setCell _ (Or.inr hbw)).setCell _ (Or.inr hbw)
theorem sS(t:cC)(n:Nat):(oH t n).size=t.size-n:=by
 unfold oH;split
 .show 0=_;omega
 rw[eo];omega
theorem Ni(t:cC):(pC t).1.size=t.size-2:=by show(oH (oH t 1) 1).size=_;rw[sS,sS];omega
theorem Il(t:cC):(pD t).1.size=t.size-6:=by show(oH (pC t).1 4).size=_;rw[sS,Ni];omega
theorem sj{t:cC}(h:t.size<6):lO t=false:=by
 have h1:(pD t).2=true:=by show(if(pC t).1.size<4 then true else(pC t).2)=true;rw[Ni,if_pos (by omega)]
 have h2:(pE t).2=true:=by
  unfold pE;split
  .show(if _ then true else(pD t).2)=true;rw[h1];split<;>rfl
  split
  .show(if _ then true else(pD t).2)=true;rw[h1];split<;>rfl
  exact h1
 unfold lO;rw[h2];simp
theorem I5(t:cC)(i:Nat)(h:i<t.size):(t.extract i (i+1)).data.toList=[t[i]]:=by
 have hl:i<t.data.size:=h;rw[ByteArray.data_extract,Array.toList_extract];rw[List.extract_eq_drop_take];have e:i+1-i=1:=by omega
 rw[e,eN (by simpa using hl)];simp;rfl
theorem I6{t:cC}(h:6≤t.size):lK t=(t[0].toNat:Int)∧lP t=(t[1].toNat:Int)∧lN t=(bq (t.extract 2 6).data.toList:Int)∧pD t=(t.extract 6 t.size,false):=by
 have e1:pB t=(t.extract 1 t.size,false):=by show(oH t 1,wG t false 1)=_;unfold oH wG;rw[if_neg (by omega),if_neg (by omega)]
 have s1:(t.extract 1 t.size).size=t.size-1:=by rw[eo];omega
 have e2:pC t=(t.extract 2 t.size,false):=by show(oH (pB t).1 1,wG (pB t).1 (pB t).2 1)=_;rw[e1];unfold oH wG;rw[if_neg (by show ¬(t.extract 1 t.size).size<1;omega),if_neg (by show ¬(t.extract 1 t.size).size<1;omega)];show((t.extract 1 t.size).extract 1 (t.extract 1 t.size).size,false)=_;rw[ByteArray.extract_extract,s1];congr 2;omega
 have s2:(t.extract 2 t.size).size=t.size-2:=by rw[eo];omega
 refine⟨?_,?_,?_,?_⟩
 .show(bq (dU t 1).data.toList:Int)=_;unfold dU;rw[if_neg (by omega),I5 t 0 (by omega)];simp[bq]
 .show(bq (dU (pB t).1 1).data.toList:Int)=_;rw[e1];unfold dU;rw[if_neg (by show ¬(t.extract 1 t.size).size<1;omega)];show(bq ((t.extract 1 t.size).extract 0 1).data.toList:Int)=_;rw[ByteArray.extract_extract];have e3:min (1+1) t.size=1+1:=by omega
  rw[e3,I5 t 1 (by omega)];simp[bq]
 .show(bq (dU (pC t).1 4).data.toList:Int)=_;rw[e2];unfold dU;rw[if_neg (by show ¬(t.extract 2 t.size).size<4;omega)];show(bq ((t.extract 2 t.size).extract 0 4).data.toList:Int)=_;rw[ByteArray.extract_extract];have e3:min (2+4) t.size=6:=by omega
  rw[e3]
 show(oH (pC t).1 4,wG (pC t).1 (pC t).2 4)=_;rw[e2];unfold oH wG;rw[if_neg (by show ¬(t.extract 2 t.size).size<4;omega),if_neg (by show ¬(t.extract 2 t.size).size<4;omega)];show((t.extract 2 t.size).extract 4 (t.extract 2 t.size).size,false)=_;rw[ByteArray.extract_extract,s2];congr 2;omega
theorem CQ{t:cC}(h:6≤t.size):lO t=(decide ((lK t=65∧t.size=6)∨lK t=68∨((lK t=72∨lK t=71)∧t.size=10))&&decide (lP t<3)):=by
 have hD:=(I6 h).2.2.2;have hz:=Il t;have h2:(pD t).2=false:=by rw[hD]
 unfold lO;by_cases k1:lK t=68
 .have e1:pE t=FH (pD t) (pD t).1.size:=by unfold pE;rw[if_pos k1]
  have e2:(pE t).1.size=0:=by rw[e1];show(oH _ _).size=0;rw[sS];omega
  have e3:(pE t).2=false:=by rw[e1];show(if(pD t).1.size<(pD t).1.size then true else(pD t).2)=false;rw[if_neg (by omega),h2]
  rw[e2,e3,k1];simp
 by_cases k2:lK t=72∨lK t=71
 .have e1:pE t=FH (pD t) 4:=by unfold pE;rw[if_neg k1,if_pos k2]
  have e2:(pE t).1.size=t.size-10:=by rw[e1];show(oH _ _).size=_;rw[sS,hz];omega
  have e3:(pE t).2=decide (t.size<10):=by
   rw[e1];show(if(pD t).1.size<4 then true else(pD t).2)=_;rw[hz,h2];by_cases h9:t.size<10
   .rw[if_pos (by omega),decide_eq_true h9]
   rw[if_neg (by omega),kB h9]
  rw[e2,e3];have k3:lK t≠65:=by omega
  by_cases h9:t.size=10
  .rcases k2 with k2|k2<;>simp[k2,h9]
  have:¬(t.size-10=0∧¬t.size<10):=by omega
  by_cases h8:t.size<10
  .rcases k2 with k2|k2<;>simp[k2,h8,h9]
  have h7:¬(t.size-10=0):=by omega
  rcases k2 with k2|k2<;>simp[k2,h7,h8,h9]
 have e1:pE t=pD t:=by unfold pE;rw[if_neg k1,if_neg k2]
 rw[e1,hz,h2];have k3:lK t≠72∧lK t≠71:=by omega
 by_cases k4:lK t=65
 .have e5:(t.size-6=0)↔(t.size=6):=by omega
  simp[k4,e5]
 simp[k1,k3.1,k3.2,k4]
theorem pO(t:cC)(w:World)(hsz:t.size≤2000000)(k1 k2:UInt8)(hkd:(k1=65∧k2=68)∨(k1=72∧k2=71)):
 Cl 98 #[.t t,.t ⟨#[k1,k2]⟩] w λe w'=>(∃(kk pp nn:Int)(rr:cC),e=.returned (.tuple #[.u kk,.i pp,.i nn,.t rr,.bool (lO t&&decide (lK t=k1.toNat∨lK t=k2.toNat))])∧(lO t=true->kk=lK t∧pp=lP t∧nn=lN t∧rr=(pD t).1))∧Fr [] w w':=by
 obtain⟨R,hR⟩:∃R:Int->Int->Int->cC->Prop,R=λkk pp nn rr=>lO t=true->kk=lK t∧pp=lP t∧nn=lN t∧rr=(pD t).1:=⟨_,rfl⟩;show Cl 98 _ w λe w'=>(∃(kk pp nn:Int)(rr:cC),e=.returned (.tuple #[.u kk,.i pp,.i nn,.t rr,.bool (lO t&&decide (lK t=k1.toNat∨lK t=k2.toNat))])∧(λkk pp nn rr=>lO t=true->kk=lK t∧pp=lP t∧nn=lN t∧rr=(pD t).1) kk pp nn rr)∧Fr [] w w';rw[<-hR];by_cases h6:t.size<6
 .have HZ:Hid (R 0 0 0 ⟨#[]⟩):=by rw[hR];intro h;rw[sj h6]at h;cases h
  rw[sj h6,jz];clear hR;have h6z:(t.size:Int)<6:=by omega
  obtain⟨n,hn⟩:=eX t.size;go_enter Tryz.func98,Tryz.ntmps98;go_wp2;refine ez (v:=.tuple #[.u 0,.i 0,.i 0,.t ⟨#[]⟩,.bool false]) ?_ rfl ⟨⟨0,0,0,⟨#[]⟩,rfl,HZ.o⟩,fR⟩;simp[results,Tryz.results98,go_sem]
 have h6':6≤t.size:=by omega
 obtain⟨f1,f2,f3,f4⟩:=I6 h6';have Z7:(pD t).1=t.extract 6 t.size:=by rw[f4]
 have hO:=CQ h6';have h6z:¬(t.size:Int)<6:=by omega
 have hp9:t[1].toNat<256:=UInt8.toNat_lt _;have Wy:t[0].toNat<256:=UInt8.toNat_lt _;have HN:Hid (∀W,Rc 99 #[.t (t.extract 2 6)] W (.i (lN t)) λw'=>w'=W):=λW=>by rw[f3];exact bA _ W (by rw[eo];omega)
 obtain⟨p,hp⟩:∃p:Nat,t[1].toNat=p:=⟨_,rfl⟩;obtain⟨k,hk⟩:∃k:Nat,t[0].toNat=k:=⟨_,rfl⟩;rw[hp]at f2 hp9;rw[hk]at f1 Wy;by_cases hp3:2<p
 .have hO2:lO t=false:=by rw[hO,f2,kB (by omega:¬((p:Int)<3)),Bool.and_false]
  have HZ:Hid (R 0 0 0 ⟨#[]⟩):=by rw[hR];intro h;rw[hO2]at h;cases h
  rw[hO2,jz];clear hR;have Us:(2:Int)<(p:Int):=by omega
  go_enter Tryz.func98,Tryz.ntmps98;go_wp2;refine ez (v:=.tuple #[.u 0,.i 0,.i 0,.t ⟨#[]⟩,.bool false]) ?_ rfl ⟨⟨0,0,0,⟨#[]⟩,rfl,HZ.o⟩,fR⟩;simp[results,Tryz.results98,go_sem]
 have Us:¬(2:Int)<(p:Int):=by omega
 obtain⟨ok,hok⟩:∃ok,(lO t&&decide (lK t=k1.toNat∨lK t=k2.toNat))=ok:=⟨_,rfl⟩;rw[hok];rw[hO,f2,decide_eq_true (by omega:(p:Int)<3),Bool.and_true,f1]at hok;have HRR:Hid (R (k:Int) (p:Int) (lN t) (t.extract 6 t.size)):=by
  rw[hR]
  exactλ_=>⟨f1.symm,f2.symm,rfl,Z7.symm⟩
 clear f1 f2 f3 f4 Z7 hO hR;obtain⟨nn,hnn⟩:=eX (lN t);rw[hnn]at HN HRR;clear hnn;have qp:¬(2:Int)<(t[1].toNat:Int):=by rw[hp];exact Us
 have hcs:k=65∨k=72∨k=71∨k=68∨(k≠65∧k≠72∧k≠71∧k≠68):=by omega
 rcases hkd with⟨rfl,rfl⟩|⟨rfl,rfl⟩
 case' inl=>have hc0:((⟨#[65,68]⟩:cC)[0].toNat:Int)=65:=rfl;have hc1:((⟨#[65,68]⟩:cC)[1].toNat:Int)=68:=rfl;have hz:t.size=6∨t.size≠6:=by omega
 case' inr=>have hc0:((⟨#[72,71]⟩:cC)[0].toNat:Int)=72:=rfl;have hc1:((⟨#[72,71]⟩:cC)[1].toNat:Int)=71:=rfl;have hz:t.size=10∨t.size≠10:=by omega
 all_goals
  rcases hcs with e|e|e|e|⟨e3,e4,e5,e6⟩<;>rcases hz with hz|hz;all_goals
   try have Cy:((k:Int)==65)=true:=by simp;omega
   try have Cy:((k:Int)==65)=false:=by simp;omega
   try have Ep:((k:Int)==68)=true:=by simp;omega
   try have Ep:((k:Int)==68)=false:=by simp;omega
   try have FK:((k:Int)==72)=true:=by simp;omega
   try have FK:((k:Int)==72)=false:=by simp;omega
   try have FL:((k:Int)==71)=true:=by simp;omega
   try have FL:((k:Int)==71)=false:=by simp;omega
   try have qz:((t.size:Int)-6==0)=true:=by simp;omega
   try have qz:((t.size:Int)-6==0)=false:=by simp;omega
   try have qy:((t.size:Int)-6==4)=true:=by simp;omega
   try have qy:((t.size:Int)-6==4)=false:=by simp;omega
   first
    |have ho:ok=true:=by rw[<-hok];simp[e,hz]
    |have ho:ok=false:=by rw[<-hok];simp[e,hz]
    |have ho:ok=false:=by rw[<-hok];simp;omega
   subst ho;clear hok hz;try rw[e]at HRR
   try(have a1:¬(k:Int)=65:=by omega;have a2:¬(k:Int)=72:=by omega;have a3:¬(k:Int)=71:=by omega;have a4:¬(k:Int)=68:=by omega;subst hk)
   go_enter Tryz.func98,Tryz.ntmps98;go_wp2;have hb1:0<t.size:=by omega
   have hb0:(0:Int)<(t.size:Int):=by omega
   go_quiet (fail)
   go_wp2;go_quiet (first|(go_at_call 99;refine(HN.o _).mono ?_;rintro e w' ⟨rfl,rfl⟩;exact⟨rfl,_,rfl⟩))
   go_wp2;refine ez (v:=.tuple #[.u _,.i p,.i nn,.t (t.extract 6 t.size),.bool _]) ?_ rfl ⟨⟨_,_,_,_,rfl,HRR.o⟩,(fR.drewN _).drewN _⟩;simp[results,Tryz.results98,go_sem]
end Go.Proofs.YtjceeemlilnplaaGreatDoor
