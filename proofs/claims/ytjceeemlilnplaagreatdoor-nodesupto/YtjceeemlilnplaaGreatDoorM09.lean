import Derived.Test.YtjceeemlilnplaaGreatDoorM03
import Derived.ArgAppend
import Derived.Laws.IdiomCopy
import Derived.Deep.RegionHeld3
set_option maxRecDepth 100000
set_option maxHeartbeats 12800000
set_option linter.all false
namespace Go.Proofs.YtjceeemlilnplaaGreatDoor
open Go.RowKit Go.Maps Go.MuLone
def lq(w:World)(base:Nat)(v:Value)(l:List UInt8):Prop:=
 ∃g cap,v=.slice (some (Ad g 0)) l.length cap∧base≤g∧g<w.heap.size∧l.length≤cap∧(∀j,j<l.length->w.cell? (Ad g j)=(dO l)[j]?)∧(∀j,j<cap->(w.cell? (Ad g j)).isSome=true∧w.frozen? (Ad g j)=false)
theorem lq.fr{w w':World}{base:Nat}{v:Value}{l:List UInt8}{F:List Nat}(h:lq w base v l)(hf:Fr F w w')(hF:∀k∈F,v.ownBlock≠some k):lq w' base v l:=by
 obtain⟨g,cap,rfl,hb,hg,hc,h1,h2⟩:=h;have e:w'.heap[g]?=w.heap[g]?:=hf.block g hg (λhm=>hF g hm rfl);refine⟨g,cap,rfl,hb,hI hg hf.size,hc,λj hj=>?_,λj hj=>?_⟩
 .rw[du e];exact h1 j hj
 rw[du e,World.frozen?_of_block e];exact h2 j hj
theorem lq.shape{w:World}{base:Nat}{v:Value}{l:List UInt8}(h:lq w base v l):∃g cap,v=.slice (some (Ad g 0)) l.length cap∧base≤g∧g<w.heap.size:=by obtain⟨g,cap,e,hb,hg,_⟩:=h;exact⟨g,cap,e,hb,hg⟩
theorem lq.text{w:World}{base:Nat}{v:Value}{l:List UInt8}(h:lq w base v l):(convert 134 9 v).run Tryz.prog w=.ok (.t ⟨l.toArray⟩) w:=by obtain⟨g,cap,rfl,hb,hg,hc,h1,h2⟩:=h;refine run_convert_bytes_back (P:=Tryz.prog) w 134 9 5 (Ad g 0) cap l Tryz.underlying134 Tryz.underlying5 Tryz.underlying9 (λj hj=>?_);rw[Addr.add_lit,eV,h1 j hj];simp[dO,u8,hj]
theorem Kc(w:World)(t:cC):∃v w',(convert 9 134 (.t t)).run Tryz.prog w=.ok v w'∧lq w' w.heap.size v t.data.toList∧Fr [] w w':=by
 refine⟨_,_,run_bytes_of_string (P:=Tryz.prog) w 9 134 5 t Tryz.underlying9 Tryz.underlying134 Tryz.underlying5,?_,((Fr.refl [] w).drew).alloc _⟩;obtain⟨cap,hcap⟩:=eX (grownCap w t.size 0 5);have hge:t.size≤cap:=by rw[<-hcap];exact grownCap_ge w t.size 0 5
 rw[hcap];have hlen:t.data.toList.length=t.size:=fk;have hrs:(bytesRow t cap).size=cap:=by have:t.data.size=t.size:=rfl;simp[bytesRow];omega
 have hh:(w.drew.alloc (.cells (bytesRow t cap) 5 ((bytesRow t cap).size,(bytesRow t cap).size+1))).heap[w.heap.size]?=some (.cells (bytesRow t cap) 5 ((bytesRow t cap).size,(bytesRow t cap).size+1)):=di w.drew _;refine⟨w.heap.size,cap,by rw[hlen],eh _,by simp,by omega,λj hj=>?_,λj hj=>⟨?_,?_⟩⟩
 .rw[cell_of hh];have hj':j<t.size:=by rw[hlen]at hj;exact hj
  have hj2:j<t.data.size:=hj';unfold bytesRow;rw[Array.getElem?_append_left (by simpa using hj2)];simp[dO];rfl
 .rw[cell_of hh,ff (by omega)];rfl
 simp only[World.frozen?,hh];simp[hrs];omega
theorem lq.own{w:World}{base n:Nat}{v:Value}{l:List UInt8}(hn:n=l.length)(h0:0<n)(h:w.ownsRow base 5 1 v n (dO l)):lq w base v l:=by
 subst hn;rcases h.2 with⟨h1,h2⟩|⟨g,c,cur,h1,hb,hg,hc,hm,hs,ht⟩
 .omega
 refine⟨g,c,h1,hb,(cY.1 hg).1,hc,λj hj=>?_,λj hj=>⟨?_,ay hg _⟩⟩
 .rw[cell_of hg,<-ht,eQ (by omega),fw]
 rw[cell_of hg,ff (by omega)];rfl
theorem kI(g:Nat):∀(vs:List Value)(o:Nat)(w:World),w.grownBy (w.setCells g o vs) (some g)
 |[],_,w=>World.grownBy.refl _ _
 |v::r,o,w=>by have ih:=kI g r (o+1) (w.setCell (Ad g o) v);exact⟨ih.os,ih.tape,ih.output,by have:=ih.size;rw[World.size_setCell]at this;exact this,λk hk hn=>(ih.block k (by simpa using hk) hn).trans (de _ _ _ _ (by simpa using hn))⟩
theorem iK{ops:Array Oper}{rest:List Oper}{o:Oper}{a:Act}{Q:Exit->Act->World->Prop}(w:World)(hgd:o.guard=none)(s x:Operand)
 (hop:o.op=Op.call {callee:=Callee.builtin Builtin.append,args:=#[s,x],argTypes:=#[134,134]})
 (base:Nat)(v:Value)(l:List UInt8)(hs:a.eval s=v)(hB:lq w base v l)(ad:Addr)(m c:Nat)(ys:List UInt8)(hx:a.eval x=.slice (some ad) m c)(hm:ys.length=m)(h0:0<m)
 (hc:∀j u,(dO ys)[j]?=some u->w.cell? (ad.add j)=some u)(hb:l.length+m≤1000000)(hbase:base≤w.heap.size)
 (hK:∀v' w',lq w' base v' (l++ys)->w.grownBy w' v.ownBlock->wpList Tryz.prog ops Q rest (a.put o.dst v') w'):wpList Tryz.prog ops Q (o::rest) a w:=by
 obtain⟨i0,hi,hz0,hz1,hz2⟩:=info_parts info5;obtain⟨g,cap,rfl,hbg,hg,hcl,h1,h2⟩:=hB;have h1c:∀u∈dO ys,u.oneCell'=true:=by intro u hu;simp only[dO,fm]at hu;obtain⟨b,_,rfl⟩:=hu;rfl
 by_cases hr:l.length+m≤cap
 .refine wpList_plain hgd λK hK'=>?_;have hrun:=run_append_room_cells (P:=Tryz.prog) w 134 o.type 5 i0 Tryz.underlying134 hi g 0 l.length cap ad m c (dO ys) (by rw[hz1,eZ];omega) hc h1c hr (λj hj=>by rw[eZ]at hj;rw[hz1];exact(h2 _ (by omega)).1) (λj hj=>by rw[eZ]at hj;rw[hz1];exact(h2 _ (by omega)).2);unfold Oper.wp;simp[execOp,hop,resolve,invoke,builtin,hs,hx,hrun,Result.andThen];rw[hz1,Nat.mul_one];refine hK' _ _ (hK _ _ ⟨g,cap,by rw[dE,hm],hbg,hI hg (kI g (dO ys) l.length w).size,by simp;omega,λj hj=>?_,λj hj=>?_⟩ ?_)
  .simp only[dO,fj];by_cases hlt:j<l.length
   .rw[World.cell?_setCells_out _ _ _ _ _ (λ_ _=>Or.inl hlt),h1 j hlt,eS (by simpa using hlt)];rfl
   have hj':j-l.length<ys.length:=by simp at hj;omega
   have:=World.cell?_setCells_in g (dO ys) l.length w (λi hi=>by rw[eZ]at hi;exact(h2 _ (by omega)).1) (j-l.length) (by rw[eZ];exact hj');rw[show l.length+(j-l.length)=j by omega]at this;rw[eC (by simp;omega)];simp only[eI];refine this.trans ?_;simp[dO,hj']
  .rw[World.frozen?_setCells];refine⟨?_,(h2 j hj).2⟩;by_cases hin:l.length≤j∧j<l.length+ys.length
   .have:=World.cell?_setCells_in g (dO ys) l.length w (λi hi=>by rw[eZ]at hi;exact(h2 _ (by omega)).1) (j-l.length) (by rw[eZ];omega);rw[show l.length+(j-l.length)=j by omega]at this;rw[this];rfl
   rw[World.cell?_setCells_out _ _ _ _ _ (λ_ _=>by rw[eZ];show j<l.length∨l.length+ys.length≤j;omega)];exact(h2 j hj).1
  exact kI g (dO ys) l.length w
 refine wpList_append_grows w hgd s x 134 hop 5 i0 _ 1 1 Tryz.underlying134 hi hz0 hz1 hz2 rfl (by omega) (some (Ad g 0)) l.length cap (dO l) hs (λe=>by cases e) (by rw[eZ];omega) (λb hb j u hj=>?_) ad m c (dO ys) hx (by rw[eZ];omega) hc h1c (by omega) (by unfold maxLen;omega) (by omega) ?_
 .cases hb;have hj':j<l.length:=by have:=(df.1 hj).1;rw[eZ]at this;exact this
  rw[Addr.add_lit,eV,h1 j hj'];exact hj
 intro v' w' ho hgr;refine hK v' w' ?_ ⟨hgr.os,hgr.tape,hgr.output,hgr.size,λk hk _=>hgr.block k hk (by simp)⟩;have e:dO l++dO ys=dO (l++ys):=by simp[dO]
 rw[e]at ho;have:=lq.own (l:=l++ys) (by simp[hm]) (by omega) ho;obtain⟨g2,c2,e2,hb2,r⟩:=this;exact⟨g2,c2,e2,eJ hbase hb2,r⟩
def Pn(x:Int×B4):List Value:=[.i x.1,u8 x.2.a,u8 x.2.b,u8 x.2.c,u8 x.2.d]
def jw(l:List (Int×B4)):List Value:=l.flatMap Pn
def Q7(x:Int×B4):List UInt8:=[eH x.1,x.2.a,x.2.b,x.2.c,x.2.d]
def nC(l:List (Int×B4)):List UInt8:=l.flatMap Q7
theorem oq(l:List (Int×B4)):(nC l).length=l.length*5:=by
 induction l with
 |nil=>rfl
 |cons x r ih=>simp[nC,Q7]at ih⊢;omega
theorem mF(l:List (Int×B4))(i:Nat)(h:i<l.length):(jw l)[i*5]?=some (.i l[i].1)∧(jw l)[i*5+1]?=some (u8 l[i].2.a)∧(jw l)[i*5+2]?=some (u8 l[i].2.b)∧(jw l)[i*5+3]?=some (u8 l[i].2.c)∧(jw l)[i*5+4]?=some (u8 l[i].2.d):=by
 have hf:∀x:Int×B4,(Pn x).length=5:=λ_=>rfl;refine⟨?_,?_,?_,?_,?_⟩
 .exact(flat_get hf l i h 0 (by omega))
 .exact(flat_get hf l i h 1 (by omega))
 .exact(flat_get hf l i h 2 (by omega))
 .exact(flat_get hf l i h 3 (by omega))
 exact(flat_get hf l i h 4 (by omega))
theorem JF(l:List (Int×B4))(k:Nat)(h:k<l.length):nC (l.take (k+1))=nC (l.take k)++Q7 l[k]:=by unfold nC;rw[ew h,List.flatMap_append];simp
def B4.list'(x:B4):List UInt8:=[x.a,x.b,x.c,x.d]
def jJ(f t m:Int):cC:=⟨#[83,78,68,49]⟩++(n4 f).ba++(n4 t).ba++(n4 m).ba
def gT(f t m nb:Int)(l:List (Int×B4)):List UInt8:=(jJ f t m).data.toList++[eH nb,eH l.length]++nC l
def dN(f t m nb:Int)(l:List (Int×B4)):cC:=⟨(gT f t m nb l).toArray⟩++(kE (gT f t m nb l)).ba
theorem Fr.tr{w w1 w2:World}(h:Fr [] w w1)(h':Fr [] w1 w2):Fr [] w w2:=h.trans h' (by simp)
theorem bD{w w':World}{base:Nat}{e:TypeId}{size:Nat}{v:Value}{n:Nat}{xs:List Value}(h:w.ownsRow base e size v n xs)(hf:Fr [] w w'):w'.ownsRow base e size v n xs:=
 aj h (λk hk=>hf.block k (h.lt k hk).2 (by simp))
theorem bR{w:World}{base:Nat}{e:TypeId}{size:Nat}{a:Option Addr}{c:Nat}{n:Nat}{xs:List Value}(h:w.ownsRow base e size (.slice a n c) n xs)(h0:0<n):∃g,a=some (Ad g 0)∧n≤c∧∀j,j<n*size->w.cell? (Ad g j)=xs[j]?:=by
 rcases h.2 with⟨h1,h2⟩|⟨g,c,cur,h1,hb,hg,hc,hm,hs,ht⟩
 .omega
 simp at h1;obtain⟨rfl,rfl⟩:=h1;refine⟨g,rfl,hc,λj hj=>?_⟩;rw[cell_of hg,<-ht,eQ hj,<-fw]
theorem Vd{w:World}{b:Nat}{z:Value}{x:B4}(h:w.heap[b]?=some (.cells #[z,.u (x.a.toNat:Int),.u (x.b.toNat:Int),.u (x.c.toNat:Int),.u (x.d.toNat:Int)] 165 (0,0))):∀j u,(dO [x.a,x.b,x.c,x.d])[j]?=some u->w.cell? (((Ad b 1):Addr).add j)=some u:=by
 intro j u hu;have hj:j<4:=by have:=(df.1 hu).1;simpa[dO]using this
 rw[Addr.add_lit,cell_of h];rcases(by omega:j=0∨j=1∨j=2∨j=3)with rfl|rfl|rfl|rfl
 .exact hu
 .exact hu
 .exact hu
 exact hu
def Ml(w wr:World)(bx:Nat)(o:Obj)(vt:Value)(L:List UInt8):Prop:=lq wr (bx+1) vt L∧Fr [] w wr∧wr.heap[bx]?=some o
theorem Ml.grown{w wr w':World}{bx:Nat}{o:Obj}{vt v':Value}{L L':List UInt8}(h:Ml w wr bx o vt L)(hbx:w.heap.size=bx){W1:World}(h1:Fr [] wr W1)(hB:lq w' (bx+1) v' L')(hg:W1.grownBy w' vt.ownBlock):Ml w w' bx o v' L'∧(∀k,k<W1.heap.size->vt.ownBlock≠some k->w'.heap[k]?=W1.heap[k]?):=by
 obtain⟨br,f,x⟩:=h;obtain⟨g,c,rfl,hb,hgl⟩:=br.shape;have hx:=(cY.1 x).1;refine⟨⟨hB,(f.tr h1).grown hg (λk hk=>Or.inr ?_),?_⟩,λk hk hn=>hg.block k hk (λe=>hn e.symm)⟩
 .have:g=k:=by simpa[Value.ownBlock]using hk
  omega
 have hne:some bx≠(Value.slice (some (Ad g 0)) L.length c).ownBlock:=λe=>by
  have:bx=g:=by simpa[Value.ownBlock]using e
  omega
 rw[hg.block bx (hI hx h1.size) hne,h1.block bx hx (by simp)];exact x
theorem Jw(f t m nb:Int)(l:List (Int×B4))(v:Value)(base:Nat)(w:World)(ho:w.ownsRow base 165 5 v l.length (jw l))(hl:l.length≤16):
 Rc 55 #[.agg #[.i f,.i t,.i m,.i nb,v]] w (.t (dN f t m nb l)) λw'=>Fr [] w w':=by
 obtain⟨ao,cap,hsh⟩:=ah ho;subst hsh;obtain⟨n,hn⟩:=eX l.length;obtain⟨bx,hbx⟩:=eX w.heap.size;obtain⟨w0,hw0⟩:=eX (w.alloc (.cells #[.i f,.i t,.i m,.i nb,.slice ao l.length cap] 161));have b0:w0.heap[bx]?=some (.cells #[.i f,.i t,.i m,.i nb,.slice ao l.length cap] 161 (0,0)):=by rw[<-hw0,<-hbx];exact di w _
 have F0:Fr [] w w0:=by rw[<-hw0];exact fR.alloc _
 have e0:cE w0 bx 0 f:=ce b0 rfl;have e1:cE w0 bx 1 t:=ce b0 rfl;have e2:cE w0 bx 2 m:=ce b0 rfl;have HB:=Hj5 b0 F0 ho hn hbx;have QF:=Hd λW=>bf f W;have MU:=Hd λW=>bf t W;have QG:=Hd λW=>bf m W;have z1:(n4 f).ba.size=4:=rfl;have z2:(n4 t).ba.size=4:=rfl;have z3:(n4 m).ba.size=4:=rfl;have z4:(⟨#[83,78,68,49]⟩:cC).size=4:=rfl;obtain⟨sg,hsg⟩:∃sg:cC,(⟨#[83,78,68,49]⟩:cC)=sg:=⟨_,rfl⟩;obtain⟨Ve,Qi⟩:=eX (n4 f).ba;obtain⟨V4,Qj⟩:=eX (n4 t).ba;obtain⟨YR,Qk⟩:=eX (n4 m).ba;rw[Qi]at QF z1;rw[Qj]at MU z2;rw[Qk]at QG z3;have HH:Hid (jJ f t m=⟨#[83,78,68,49]⟩++Ve++V4++YR):=by show _=_;unfold jJ;rw[Qi,Qj,Qk]
 obtain⟨hd,hhd⟩:=eX (jJ f t m);have s1:(⟨#[83,78,68,49]⟩++Ve:cC).size=8:=by rw[fY,z1];rfl
 have s2:(⟨#[83,78,68,49]⟩++Ve++V4:cC).size=12:=by rw[fY,s1,z2]
 have s3:(⟨#[83,78,68,49]⟩++Ve++V4++YR:cC).size=16:=by rw[fY,s2,z3]
 have HCV:Hid (∀W:World,∃v w',(convert 9 134 (.t (⟨#[83,78,68,49]⟩++Ve++V4++YR))).run Tryz.prog W=.ok v w'∧lq w' W.heap.size v (jJ f t m).data.toList∧Fr [] W w'):=λW=>by rw[HH.o];exact Kc W _
 clear hsg sg Qi Qj Qk ho b0 F0 hn;have dV:=hw0;clear hw0;go_enter Tryz.func55,Tryz.ntmps55;go_wp2;go_region_held (λw'=>w'.cell? (Ad bx 0)=some (.i f)∧w'.cell? (Ad bx 1)=some (.i t)∧w'.cell? (Ad bx 2)=some (.i m))
  (first
    |go_keep
    |(go_split_ands;refine⟨?_,?_,?_⟩<;>first
       |(rw[du (f5.block bx (dm _ (Ad bx 0) (by assumption)) (by simp))];assumption)
       |(rw[du (f6.block bx (dm _ (Ad bx 0) (by assumption)) (by simp))];assumption)
       |(rw[du (f7.block bx (dm _ (Ad bx 0) (by assumption)) (by simp))];assumption)
       |(rw[du (f8.block bx (dm _ (Ad bx 0) (by assumption)) (by simp))];assumption)))
  (first
    |(go_at_call_of 110 (Value.i f);refine(QF.o _).mono ?_;rintro e w5 ⟨rfl,f5⟩)
    |(go_at_call_of 110 (Value.i t);refine(MU.o _).mono ?_;rintro e w6 ⟨rfl,f6⟩)
    |(go_at_call_of 110 (Value.i m);refine(QG.o _).mono ?_;rintro e w7 ⟨rfl,f7⟩;obtain⟨v8,w8,hc8,YS,f8⟩:=HCV.o w7))
 have G8:=((((Fr.refl [] w0).drew).tr f5).tr f6|>.tr f7).tr f8;have F8:=HB.o.2.1.tr G8;have x8:w8.heap[bx]?=some (.cells #[.i f,.i t,.i m,.i nb,.slice ao l.length cap] 161 (0,0)):=by rw[G8.block bx (cY.1 HB.o.1).1 (by simp)];exact HB.o.1
 have FJ:bx+1≤w7.heap.size:=by have h1:=(cY.1 HB.o.1).1;have h2:=((((Fr.refl [] w0).drew).tr f5).tr f6|>.tr f7).size;omega
 have Mq:lq w8 (bx+1) v8 (jJ f t m).data.toList:=by obtain⟨g,c,e,hb,r⟩:=YS;exact⟨g,c,e,eJ FJ hb,r⟩
 obtain⟨g8,Ql,hv8,Mw,Vf⟩:=Mq.shape;subst hv8;have H8:=Hj5 Mq F8 x8 Mw Vf;have y3:cE w8 bx 3 nb:=ce x8 rfl;have y4:cD w8 bx 4 (.slice ao l.length cap):=ce x8 rfl;have BA:(jJ f t m).data.toList.length=16:=rfl;have q1:=dX nb;have q2:=dX (l.length:Int);obtain⟨hd,hhd⟩:=eX (jJ f t m).data.toList;obtain⟨u1,hu1⟩:=eX (eH nb);obtain⟨u2,hu2⟩:=eX (eH (l.length:Int));rw[hu1]at q1;rw[hu2]at q2;rw[hhd]at H8 BA YS Mq hc8;rw[BA]at H8;have HD:=Hj4 hhd hu1 hu2 BA;rw[hhd,BA];clear hhd hu1 hu2 YS Mq hc8 f5 f6 f7 f8 G8 F8 x8 HCV QF MU QG HH FJ BA Mw Vf s1 s2 s3 z1 z2 z3 z4 e0 e1 e2;have q3:(u2.toNat:Int)=(l.length:Int):=by omega
 have zM:∀j u,(dO [u1,u2])[j]?=some u->(w8.alloc (.cells #[.u (u1.toNat:Int),.u (l.length:Int)] 5)).cell? (((Ad w8.heap.size 0):Addr).add j)=some u:=by
  have e:dO [u1,u2]=[.u (u1.toNat:Int),.u (l.length:Int)]:=by simp[dO,u8];exact q3
  rw[e];exact M9 w8 (.u (u1.toNat:Int)) (.u (l.length:Int))
 clear q2 q3;have hbz:bx+1≤(w8.alloc (.cells #[.u (u1.toNat:Int),.u (l.length:Int)] 5)).heap.size:=by have:=H8.o.2.2.2;simp;omega
 go_wp2_with (at_builtin;refine iK _ rfl _ _ rfl (bx+1) (.slice (some (Ad g8 0)) 16 Ql) hd rfl (H8.o.1.fr ((Fr.refl [] w8).alloc _) (by simp)) (Ad w8.heap.size 0) 2 2 [u1,u2] rfl rfl (by omega) zM (by rw[HD.o.2.2.2];omega) hbz ?_;intro v9 w9 br9 JM;have Rt:=Ml.grown (o:=.cells #[.i f,.i t,.i m,.i nb,.slice ao l.length cap] 161 (0,0)) (⟨H8.o.1,H8.o.2.1,H8.o.2.2.1⟩:Ml w w8 bx _ (.slice (some (Ad g8 0)) 16 Ql) hd) hbx ((Fr.refl [] w8).alloc _) br9 JM;have H9:=Hd Rt.1;have y9:cD w9 bx 4 (.slice ao l.length cap):=(ce H9.o.2.2 rfl);clear Rt br9 JM);clear H8 zM hbz y3 y4;go_loopw [3,32] (λvt i wr=>∃k:Nat,k≤l.length∧i=.i k∧Hid (Ml w wr bx (.cells #[.i f,.i t,.i m,.i nb,.slice ao l.length cap] 161 (0,0)) vt (hd++[u1,u2]++nC (l.take k)))) (λ_ i _=>l.length-(intOf i).toNat)
 case atStart=>exact⟨0,dC _,rfl,by simpa[nC]using H9⟩
 obtain⟨k,hk,rfl,HK⟩:=hrel;obtain⟨W3,hW3⟩:=eY wr;subst hW3;clear H9 y9;obtain⟨g3,Vg,hv3,hg3,hg3'⟩:=HK.o.1.shape;subst hv3;by_cases hlt:k<l.length
 .have hltz:(k:Int)<(l.length:Int):=by omega
  have hor:=bD HB.o.2.2.1 HK.o.2.1;obtain⟨lg,qo,MG,hcc⟩:=bR hor (by omega);subst qo;have hb5:=mF l k hlt;obtain⟨x,hx⟩:=eX l[k];rw[hx]at hb5;have d0:W3.cell? (Ad lg (k*5))=some (.i x.1):=by rw[hcc _ (by omega)];exact hb5.1
  have d1:W3.cell? (Ad lg (k*5+1))=some (.u (x.2.a.toNat:Int)):=by rw[hcc _ (by omega)];exact hb5.2.1
  have d2:W3.cell? (Ad lg (k*5+2))=some (.u (x.2.b.toNat:Int)):=by rw[hcc _ (by omega)];exact hb5.2.2.1
  have d3:W3.cell? (Ad lg (k*5+3))=some (.u (x.2.c.toNat:Int)):=by rw[hcc _ (by omega)];exact hb5.2.2.2.1
  have d4:W3.cell? (Ad lg (k*5+4))=some (.u (x.2.d.toNat:Int)):=by rw[hcc _ (by omega)];exact hb5.2.2.2.2
  have HX:=Hd hx;have q5:=dX x.1;obtain⟨u5,YT⟩:=eX (eH x.1);rw[YT]at q5;have HX5:=Hd YT;clear hcc hb5 hx YT hor;obtain⟨L3,hL3⟩:=eX (hd++[u1,u2]++nC (l.take k));have Q8:Hid (hd++[u1,u2]++nC (l.take k)=L3∧L3.length≤98):=⟨hL3,by rw[<-hL3];simp only[dE,oq,eM,HD.o.2.2.2];simp;omega⟩;rw[hL3]at HK;rw[hL3];clear hL3;have hlb:L3.length≤98:=Q8.o.2;obtain⟨ob,jT⟩:=eX (Obj.cells #[.i x.1,.u (x.2.a.toNat:Int),.u (x.2.b.toNat:Int),.u (x.2.c.toNat:Int),.u (x.2.d.toNat:Int)] 165 (0,0));have HOB:=Hd jT;have HW1:Hid (∀j u,(dO [u5])[j]?=some u->((W3.alloc (.cells #[.i x.1,.u (x.2.a.toNat:Int),.u (x.2.b.toNat:Int),.u (x.2.c.toNat:Int),.u (x.2.d.toNat:Int)] 165)).alloc (.cells #[.u (u5.toNat:Int)] 5)).cell? (((Ad (W3.heap.size+1) 0):Addr).add j)=some u):=by have:=di (W3.alloc (.cells #[.i x.1,.u (x.2.a.toNat:Int),.u (x.2.b.toNat:Int),.u (x.2.c.toNat:Int),.u (x.2.d.toNat:Int)] 165)) (.cells #[.u (u5.toNat:Int)] 5);rw[show(W3.alloc (.cells #[.i x.1,.u (x.2.a.toNat:Int),.u (x.2.b.toNat:Int),.u (x.2.c.toNat:Int),.u (x.2.d.toNat:Int)] 165)).heap.size=W3.heap.size+1 by simp]at this;exact World.news_of_block (cs:=#[.u (u5.toNat:Int)]) (t:=5) (fr:=(0,0)) this
  have YU:bx+1≤W3.heap.size:=by omega
  clear jT;go_wp2_with (first
   |(at_builtin;refine iK _ rfl _ _ rfl (bx+1) (.slice (some (Ad g3 0)) L3.length Vg) L3 rfl (HK.o.1.fr (((Fr.refl [] W3).alloc _).alloc _) (by simp)) (Ad (W3.heap.size+1) 0) 1 1 [u5] rfl rfl (by omega) HW1.o (by omega) (by simp;omega) ?_;intro v10 gV Qm Qn;have Qo:=HK.o.grown hbx (((Fr.refl [] W3).alloc _).alloc _) Qm Qn;have kW:Hid (Ml w gV bx (.cells #[.i f,.i t,.i m,.i nb,.slice (some (Ad lg 0)) l.length cap] 161 (0,0)) v10 (L3++[u5])∧gV.heap[W3.heap.size]?=some (.cells #[.i x.1,.u (x.2.a.toNat:Int),.u (x.2.b.toNat:Int),.u (x.2.c.toNat:Int),.u (x.2.d.toNat:Int)] 165 (0,0))∧bx+1≤gV.heap.size):=⟨Qo.1,by rw[Qo.2 W3.heap.size (by simp;omega) (by simp[Value.ownBlock];omega),ei _ _ _ (by simp)];exact di W3 _,eJ YU (eJ (((Fr.refl [] W3).alloc _).alloc _).size Qn.size)⟩;obtain⟨g10,zu,vU,_,_⟩:=Qm.shape;subst vU;clear Qm Qn Qo)
   |(at_builtin;refine iK _ rfl _ _ rfl (bx+1) (.slice (some (Ad g10 0)) (L3.length+1) zu) (L3++[u5]) rfl (by have:=kW.o.1.1;rw[dE]at this;exact this) (Ad W3.heap.size 1) 4 4 [x.2.a,x.2.b,x.2.c,x.2.d] rfl rfl (by omega) (Vd kW.o.2.1) (by simp;omega) kW.o.2.2 ?_;intro v11 oG Vh Vi;have VB:=Hd (kW.o.1.grown hbx (Fr.refl [] gV) Vh Vi).1;clear Vh Vi))
  go_roundw
  case rel=>exact⟨k+1,by omega,by go_num,by
   have e:L3++[u5]++[x.2.a,x.2.b,x.2.c,x.2.d]=hd++[u1,u2]++nC (l.take (k+1)):=by rw[JF l k hlt,HX.o,<-Q8.o.1];simp[Q7,HX5.o]
   rw[<-e];exact VB⟩
  simp[intOf];omega
 have hkk:k=l.length:=by omega
 subst hkk;have hbd:hd++[u1,u2]++nC (l.take l.length)=gT f t m nb l:=by unfold gT;rw[kf,HD.o.1,HD.o.2.1,HD.o.2.2.1]
 have hbl:(gT f t m nb l).length≤98:=by rw[<-hbd];simp only[dE,oq,eM,HD.o.2.2.2];simp;omega
 rw[hbd]at HK;rw[hbd];have HST:Hid (dN f t m nb l=⟨(gT f t m nb l).toArray⟩++(kE (gT f t m nb l)).ba):=rfl;obtain⟨bd,Qp⟩:=eX (gT f t m nb l);rw[Qp]at HK hbl HST;rw[Qp];have SQ:=jF ⟨bd.toArray⟩;have hsz:(⟨bd.toArray⟩:cC).size=bd.length:=by show bd.toArray.size=bd.length;simp
 have HC:Hid (∀W,Rc 111 #[.t ⟨bd.toArray⟩] W (.t (kE bd).ba) λw'=>Fr [] W w'):=λW=>by have:=SQ W (by rw[hsz];omega);simpa using this
 have hcs:(kE bd).ba.size=4:=rfl;obtain⟨ck,hck⟩:=eX (kE bd).ba;rw[hck]at HC hcs HST;have uI:Hid (∀W,Fr [] W3 W->(convert 134 9 (.slice (some (Ad g3 0)) bd.length Vg)).run Tryz.prog W=.ok (.t ⟨bd.toArray⟩) W):=λW hW=>(HK.o.1.fr hW (by simp)).text;have hc1:=uI.o W3 fR;have hc2:=uI.o W3.drew fR.drew;obtain⟨bs,hbs⟩:∃bs:cC,(⟨bd.toArray⟩:cC)=bs:=⟨_,rfl⟩;rw[hbs]at HC uI hc1 hc2 hsz HST;have hadd:¬(9223372036854775807<bd.length+4):=by omega
 clear hbd Qp hck hbs SQ;go_wp2;go_region_with (go_at_call 111;refine(HC.o _).mono ?_;rintro e w5 ⟨rfl,f5⟩;have Dr:=uI.o w5 (((Fr.refl [] W3).drew).tr f5));all_goals
  go_wp2;go_ret;exact⟨by rw[HST.o];rfl,(HK.o.2.1.drew).tr f5⟩
end Go.Proofs.YtjceeemlilnplaaGreatDoor
