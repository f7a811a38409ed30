import Derived.Test.YtjceeemlilnplaaGreatDoorM45
set_option maxRecDepth 100000
set_option maxHeartbeats 12800000
set_option linter.all false
namespace Go.Proofs.YtjceeemlilnplaaGreatDoor
open Go.RowKit Go.Maps Go.MuLone
structure Cg where
 id:Int
 bl:Int
 np:Int
 ev:Int
 wt:Int
 cp:Int
 gr:cC
 la:Int
def Cg.cs(c:Cg):Array Value:=#[.i c.id,.i c.bl,.i c.np,.i c.ev,.i c.wt,.i c.cp,.t c.gr,.i c.la]
abbrev Cg.own(c:Cg):Prop:=(1≤c.np∧c.np≤3)∧(1≤c.ev∧c.ev≤1000)∧1≤c.wt∧c.wt≤c.cp∧c.cp≤1000
def Cg.err(c:Cg):Int:=if c.own then mQ c.id c.bl c.la c.gr else 1
def Pr.zero:Pr:=⟨0,0,0,false,false,0,0,0,0⟩
def nS(c:Cg):Sc:=⟨c.id,c.bl,c.np,c.ev,c.wt,c.cp,c.gr,c.la,bJ c.gr,0,List.replicate c.np.toNat Pr.zero,ak.fresh c.id c.bl.toNat 16⟩
theorem Cg.ok{c:Cg}(h:c.err=0):c.own∧nT c.id c.bl c.la∧gP c.gr=0:=by
 unfold Cg.err at h;split at h
 .rename_i ho;unfold mQ at h;split at h
  .rename_i hk;exact⟨ho,hk,h⟩
  omega
 omega
theorem Ov{c:Cg}(h:c.err=0):fG (nS c)∧gI (nS c) 0∧(nS c).ps.length=c.np.toNat:=by
 obtain⟨ho,hk,_⟩:=Cg.ok h;have hp:∀p∈(nS c).ps,p=Pr.zero:=λp hp=>List.eq_of_mem_replicate hp;refine⟨⟨ho.2.1,ho.2.2,hk.2,Cn _,by show(0:Int)≤0∧(0:Int)≤_;omega,?_,λp h9=>?_⟩,λp h9=>?_,li⟩
 .show 1≤(List.replicate _ _).length∧(List.replicate _ _).length≤3;rw[li];have:=ho.1;omega
 .rw[hp p h9];show(0≤(0:Int)∧(0:Int)≤_)∧(0≤(0:Int)∧(0:Int)≤0)∧(0≤(0:Int)∧(0:Int)≤_)∧0≤(0:Int)∧(0:Int)≤0;omega
 rw[hp p h9];exact gm _
theorem OL:(Tryz.prog.info? 120).map (λi=>(i.zero,i.size,i.bytes))=some (some (.agg #[.i 0,.i 0,.i 0,.i 0,.u 0,.i 0,.i 0]),7,56):=by kernel_rfl
theorem AL(m:Nat)(hm:m≤3):madeCells (Value.agg #[.i 0,.i 0,.i 0,.i 0,.u 0,.i 0,.i 0]).cells (m*7)=(K3 (List.replicate m Pr.zero)).toArray:=by rcases(by omega:m=0∨m=1∨m=2∨m=3)with h|h|h|h<;>subst h<;>kernel_rfl
theorem Ei(m:Nat)(hm:m≤3)(W:World):(Instr.makeSlice 98 (.i (m:Int)) (.i (m:Int))).run Tryz.prog W=.ok (.slice (some (Ad W.heap.size 0)) m m) (W.alloc (.cells (K3 (List.replicate m Pr.zero)).toArray 120)):=by obtain⟨i0,hi,hz0,hz1,hz2⟩:=info_parts OL;have hr:=run_make (P:=Tryz.prog) W 98 120 i0 _ Tryz.underlying98 hi hz0 .i64 .i64 m m (by omega) (gm _) (by rw[hz2];omega) (by omega);simp only[Int.toNat_natCast,hz1]at hr;rw[AL m hm]at hr;exact hr
section
variable {c:Cg}{w:World}
theorem um(c:Cg)(w:World)(hg:c.gr.size≤2000000)(h:c.err≠0):Rc 8 #[.agg c.cs] w (.tuple #[.pointer none,.i c.err]) λw'=>Fr [] w w':=by
 obtain⟨id,bl,np,ev,wt,cp,gr,la⟩:=c;obtain⟨w0,hw0⟩:=eX (w.alloc (.cells #[.i id,.i bl,.i np,.i ev,.i wt,.i cp,.t gr,.i la] 23));obtain⟨cb,hcb⟩:=eX w.heap.size;have n0:w0.heap[cb]?=some (.cells #[.i id,.i bl,.i np,.i ev,.i wt,.i cp,.t gr,.i la] 23 (0,0)):=by rw[<-hw0,<-hcb];exact di w _
 have q0:cE w0 cb 0 id:=ce n0 rfl;have q1:cE w0 cb 1 bl:=ce n0 rfl;have q2:cE w0 cb 2 np:=ce n0 rfl;have q3:cE w0 cb 3 ev:=ce n0 rfl;have q4:cE w0 cb 4 wt:=ce n0 rfl;have q5:cE w0 cb 5 cp:=ce n0 rfl;have q6:cD w0 cb 6 (.t gr):=ce n0 rfl;have q7:cE w0 cb 7 la:=ce n0 rfl;have H0:Hid (Fr [] w w0):=by rw[<-hw0];exact fR.alloc _
 have dV:=hw0;by_cases ho:Cg.own ⟨id,bl,np,ev,wt,cp,gr,la⟩
 .have e1:Cg.err ⟨id,bl,np,ev,wt,cp,gr,la⟩=mQ id bl la gr:=if_pos ho;rw[e1]at h⊢;obtain⟨z,hz⟩:=eX (mQ id bl la gr);have HK:Hid (∀W,Rc 32 #[.i id,.i bl,.t gr,.i la] W (.tuple #[.agg #[.pointer none,.i 0,.slice none 0 0],.i z]) λw'=>Fr [] W w'):=λW=>by rw[<-hz];exact mW id bl gr la W hg h
  rw[hz]at h⊢;have z0:(z==0)=false:=by simpa using h
  have g1:(1:Int)≤np:=ho.1.1;have g2:np≤3:=ho.1.2;have g3:(1:Int)≤ev:=ho.2.1.1;have g4:ev≤1000:=ho.2.1.2;have g5:(1:Int)≤wt:=ho.2.2.1;have g6:wt≤cp:=ho.2.2.2.1;have g7:cp≤1000:=ho.2.2.2.2;clear e1 h hz ho n0 hw0 hg;unfold Cg.cs;go_enter Tryz.func8,Tryz.ntmps8;go_wp2_with (go_at_call 32;refine(HK.o _).mono ?_;rintro e w1 ⟨rfl,f1⟩;have H1:=Hd (H0.o.trans f1 (by simp));clear f1);refine ez (ft rfl _ _ _) rfl ⟨rfl,H1.o.alloc _⟩
 have e1:Cg.err ⟨id,bl,np,ev,wt,cp,gr,la⟩=1:=if_neg ho;rw[e1];have hp:¬(1:Int)≤np∨((1:Int)≤np∧¬np≤3)∨((1:Int)≤np∧np≤3):=by omega
 have he:¬(1:Int)≤ev∨((1:Int)≤ev∧¬ev≤1000)∨((1:Int)≤ev∧ev≤1000):=by omega
 have hw:¬(1:Int)≤wt∨((1:Int)≤wt∧¬wt≤cp)∨((1:Int)≤wt∧wt≤cp∧¬cp≤1000)∨((1:Int)≤wt∧wt≤cp∧cp≤1000):=by omega
 have hno:¬(((1:Int)≤np∧np≤3)∧((1:Int)≤ev∧ev≤1000)∧(1:Int)≤wt∧wt≤cp∧cp≤1000):=ho;clear e1 h ho n0 hw0 hg q0 q1 q6 q7;unfold Cg.cs;rcases hp with g1|⟨g1,g2⟩|⟨g1,g2⟩<;>rcases he with g3|⟨g3,g4⟩|⟨g3,g4⟩<;>rcases hw with g5|⟨g5,g6⟩|⟨g5,g6,g7⟩|⟨g5,g6,g7⟩;all_goals
  first
   |(exfalso;omega)
   |(clear hno;try have d1:decide (np≥1)=false:=(by simp;omega)
     try have d3:decide (ev≥1)=false:=(by simp;omega)
     try have d5:decide (wt≥1)=false:=(by simp;omega)
     try have d6:decide (wt≤cp)=false:=(by simp;omega)
     try have e1:decide (np≥1)=true:=(by simp;omega)
     try have e3:decide (ev≥1)=true:=(by simp;omega)
     try have e5:decide (wt≥1)=true:=(by simp;omega)
     try have e6:decide (wt≤cp)=true:=(by simp;omega)
     go_enter Tryz.func8,Tryz.ntmps8;go_wp2;refine ez (ft rfl _ _ _) rfl ⟨rfl,?_⟩;exact H0.o)
end
theorem OM:(Tryz.prog.info? 122).map (λi=>(i.zero,i.size,i.bytes))=some (some (.agg #[.i 0,.i 0,.i 0,.bool false,.bool false,.i 0,.i 0,.i 0,.i 0]),9,64):=by kernel_rfl
theorem yL(m:Nat)(hm:m≤3):madeCells (Value.agg #[.i 0,.i 0,.i 0,.bool false,.bool false,.i 0,.i 0,.i 0,.i 0]).cells (m*9)=(OO (List.replicate m Pr.zero)).toArray:=by rcases(by omega:m=0∨m=1∨m=2∨m=3)with h|h|h|h<;>subst h<;>kernel_rfl
theorem AO(m:Nat)(hm:m≤3)(W:World):(Instr.makeSlice 65 (.i (m:Int)) (.i (m:Int))).run Tryz.prog W=.ok (.slice (some (Ad W.heap.size 0)) m m) (W.alloc (.cells (OO (List.replicate m Pr.zero)).toArray 122)):=by obtain⟨i0,hi,hz0,hz1,hz2⟩:=info_parts OM;have hr:=run_make (P:=Tryz.prog) W 65 122 i0 _ Tryz.underlying65 hi hz0 .i64 .i64 m m (by omega) (gm _) (by rw[hz2];omega) (by omega);simp only[Int.toNat_natCast,hz1]at hr;rw[yL m hm]at hr;exact hr
theorem rP(c:Cg)(w:World)(hg:c.gr.size≤2000000)(h:c.err≠0):Rc 9 #[.agg c.cs] w (.tuple #[.pointer none,.i c.err]) λw'=>Fr [] w w':=by
 obtain⟨id,bl,np,ev,wt,cp,gr,la⟩:=c;have hg:gr.size≤2000000:=hg;obtain⟨w0,hw0⟩:=eX (w.alloc (.cells #[.i id,.i bl,.i np,.i ev,.i wt,.i cp,.t gr,.i la] 23));obtain⟨cb,hcb⟩:=eX w.heap.size;have n0:w0.heap[cb]?=some (.cells #[.i id,.i bl,.i np,.i ev,.i wt,.i cp,.t gr,.i la] 23 (0,0)):=by rw[<-hw0,<-hcb];exact di w _
 have HC:Hid (∀W,Fr [] w0 W->W.cell? (Ad cb 2)=some (.i np)∧W.cell? (Ad cb 3)=some (.i ev)∧W.cell? (Ad cb 4)=some (.i wt)∧W.cell? (Ad cb 5)=some (.i cp)∧W.cell? (Ad cb 6)=some (.t gr)∧W.cell? (Ad cb 7)=some (.i la)):=λW hW=>by have n1:=(hW.block cb (cY.1 n0).1 (by simp)).trans n0;refine⟨?_,?_,?_,?_,?_,?_⟩<;>rw[cell_of n1]<;>rfl
 have q0:cE w0 cb 0 id:=ce n0 rfl;have q1:cE w0 cb 1 bl:=ce n0 rfl;have H0:Hid (Fr [] w w0):=by rw[<-hw0];exact fR.alloc _
 obtain⟨z,hz,hN⟩:=yK id bl w0;have HN:=Hd hN;have dV:=hw0;by_cases ho:Cg.own ⟨id,bl,np,ev,wt,cp,gr,la⟩∧nT id bl la
 .have e1:Cg.err ⟨id,bl,np,ev,wt,cp,gr,la⟩=gP gr:=(if_pos ho.1).trans (if_pos ho.2);have e2:=(lT gr).resolve_left (by rw[<-e1];exact h);rw[e1,e2];have HP:Hid (∀W,Cl 34 #[.t gr] W λe w'=>∃ra rl rc,e=.returned (.tuple #[.slice ra rl rc,.i 2])∧Fr [] W w'):=λW=>by refine(qD gr hg W).mono ?_;rintro e w' ⟨ra,rc,he,_,f⟩;rw[e2]at he;exact⟨ra,_,rc,he,f⟩
  have hz0:z=0:=by rcases hz with hz|hz;exact absurd ho.2.1 hz.1;exact hz.2
  subst hz0;have g1:¬np<1:=by have:=ho.1.1.1;show ¬np<1;exact Int.not_lt.2 this
  have g2:¬3<np:=Int.not_lt.2 ho.1.1.2;have g3:¬ev<1:=Int.not_lt.2 ho.1.2.1.1;have g4:¬1000<ev:=Int.not_lt.2 ho.1.2.1.2;have g5:¬wt<1:=Int.not_lt.2 ho.1.2.2.1;have g6:¬cp<wt:=Int.not_lt.2 ho.1.2.2.2.1;have g7:¬1000<cp:=Int.not_lt.2 ho.1.2.2.2.2;have g8:¬1000<wt:=by have h1:wt≤cp:=ho.1.2.2.2.1;have h2:cp≤1000:=ho.1.2.2.2.2;omega
  have g9:¬la<1:=by have:=ho.2.2;omega
  have g10:¬12<la:=by have:=ho.2.2;omega
  clear e1 e2 h hz ho n0 hw0 hg hN;unfold Cg.cs;go_enter Tryz.func9,Tryz.ntmps9;go_wp2_with (first
   |(go_at_call 34;refine(HP.o _).mono ?_;rintro e w2 ⟨ra,rl,rc,rfl,f2⟩;have H2:=Hd (H1.o.trans f2 (by simp));clear f2)
   |(go_at_call 33;refine HN.o.mono ?_;rintro e w1 ⟨x,rfl,f1⟩;have H1:=Hd (H0.o.trans f1 (by simp));obtain⟨p2,p3,p4,p5,p6,p7⟩:=HC.o w1 f1;clear f1))
  refine ez (ft rfl _ _ _) rfl ⟨rfl,H2.o⟩
 have e1:Cg.err ⟨id,bl,np,ev,wt,cp,gr,la⟩=1:=by
  by_cases h1:Cg.own ⟨id,bl,np,ev,wt,cp,gr,la⟩
  .exact(if_pos h1).trans (if_neg λh2=>ho ⟨h1,h2⟩)
  exact if_neg h1
 rw[e1];have hno:¬((((1:Int)≤np∧np≤3)∧((1:Int)≤ev∧ev≤1000)∧(1:Int)≤wt∧wt≤cp∧cp≤1000)∧z=0∧1≤la∧la≤12):=λh9=>ho ⟨h9.1,⟨by rcases hz with hz|hz;(have:=h9.2.1;omega);exact hz.1,h9.2.2⟩⟩;have Xg:z=0∨z=1:=by rcases hz with hz|hz;exact Or.inr hz.2;exact Or.inl hz.2
 have hc:z=1∨(z=0∧(np<1∨(¬np<1∧(3<np∨(¬3<np∧(ev<1∨(¬ev<1∧(1000<ev∨(¬1000<ev∧(wt<1∨(¬wt<1∧(1000<wt∨(¬1000<wt∧(cp<wt∨(¬cp<wt∧(1000<cp∨(¬1000<cp∧(la<1∨(¬la<1∧12<la))))))))))))))))))):=by omega
 clear e1 h ho n0 hw0 hg hno hz hN Xg;unfold Cg.cs;rcases hc with rfl|⟨rfl,g1|⟨g1,g2|⟨g2,g3|⟨g3,g4|⟨g4,g5|⟨g5,g6|⟨g6,g7|⟨g7,g8|⟨g8,g9|⟨g9,g10⟩⟩⟩⟩⟩⟩⟩⟩⟩⟩;all_goals
  go_enter Tryz.func9,Tryz.ntmps9;go_wp2_with (go_at_call 33;refine HN.o.mono ?_;rintro e w1 ⟨x,rfl,f1⟩;have H1:=Hd (H0.o.trans f1 (by simp));obtain⟨p2,p3,p4,p5,p6,p7⟩:=HC.o w1 f1;clear f1);refine ez (ft rfl _ _ _) rfl ⟨rfl,H1.o⟩
theorem uj(c:Cg)(w:World)(hg:c.gr.size≤2000000)(h:c.err=0):Cl 9 #[.agg c.cs] w λe w'=>∃p:Pl,e=.returned (.tuple #[.p p.xb,.i 0])∧jB (rF p (nS c) 0) w w':=by
 obtain⟨hown,hk,hgr⟩:=Cg.ok h;obtain⟨s0,hs0⟩:=eX (nS c);rw[hs0];obtain⟨id,bl,np,ev,wt,cp,gr,la⟩:=c;have hown:(1≤np∧np≤3)∧(1≤ev∧ev≤1000)∧1≤wt∧wt≤cp∧cp≤1000:=hown;have hk:nT id bl la:=hk;have hgr:gP gr=0:=hgr;have hg:gr.size≤2000000:=hg;obtain⟨n,hn⟩:∃n:Nat,bl=(n:Int):=⟨bl.toNat,by have:=hk.1.2;show bl=_;omega⟩;obtain⟨m,hm⟩:∃m:Nat,np=(m:Int):=⟨np.toNat,by have:=hown.1;show np=_;omega⟩;subst hn;subst hm;have Vy:1≤m∧m≤3:=by have:=hown.1;omega
 obtain⟨w0,hw0⟩:=eX (w.alloc (.cells #[.i id,.i n,.i m,.i ev,.i wt,.i cp,.t gr,.i la] 23));obtain⟨cb,hcb⟩:=eX w.heap.size;have n0:w0.heap[cb]?=some (.cells #[.i id,.i n,.i m,.i ev,.i wt,.i cp,.t gr,.i la] 23 (0,0)):=by rw[<-hw0,<-hcb];exact di w _
 have HC:Hid (∀W,Fr [] w0 W->(W.cell? (Ad cb 0)=some (.i id)∧W.cell? (Ad cb 1)=some (.i n))∧W.cell? (Ad cb 2)=some (.i m)∧W.cell? (Ad cb 3)=some (.i ev)∧W.cell? (Ad cb 4)=some (.i wt)∧W.cell? (Ad cb 5)=some (.i cp)∧W.cell? (Ad cb 6)=some (.t gr)∧W.cell? (Ad cb 7)=some (.i la)):=λW hW=>by have n1:=(hW.block cb (cY.1 n0).1 (by simp)).trans n0;refine⟨⟨?_,?_⟩,?_,?_,?_,?_,?_,?_⟩<;>rw[cell_of n1]<;>rfl
 obtain⟨⟨q0,q1⟩,_⟩:=HC.o w0 fR;have H0:Hid (Fr [] w w0):=by rw[<-hw0];exact fR.alloc _
 obtain⟨rl,hrl⟩:=eX (bJ gr).length;have HN:=Hd (Ht id n w0 hk.1.1 (by have:=hk.1.2;omega));have HP:Hid (∀W,Cl 34 #[.t gr] W λe w'=>∃ra rc,e=.returned (.tuple #[.slice ra rl rc,.i 0])∧w'.ownsRow W.heap.size 172 2 (.slice ra (bJ gr).length rc) (bJ gr).length (GQ (bJ gr))∧Fr [] W w'):=λW=>by have h9:=qD gr hg W;rw[hgr]at h9;rw[<-hrl];exact h9
 have JR:Hid ((s0.r=ak.fresh id n 16∧s0.rs=bJ gr∧(bJ gr).length=rl∧s0.ps=List.replicate m Pr.zero)∧s0.id=id∧s0.bl=n∧s0.np=m∧s0.every=ev∧s0.wait=wt∧s0.cap=cp∧s0.grid=gr∧s0.last=la∧s0.time=0):=by rw[<-hs0];exact⟨⟨by simp[nS],rfl,hrl,by simp[nS]⟩,rfl,rfl,rfl,rfl,rfl,rfl,rfl,rfl,rfl⟩
 have g1:¬(m:Int)<1:=by omega
 have g2:¬3<(m:Int):=by omega
 have g3:¬ev<1:=by omega
 have g4:¬1000<ev:=by omega
 have g5:¬wt<1:=by omega
 have g6:¬cp<wt:=by omega
 have g7:¬1000<cp:=by omega
 have g8:¬1000<wt:=by omega
 have g9:¬la<1:=by have:=hk.2;omega
 have g10:¬12<la:=by have:=hk.2;omega
 have dV:=hw0;clear h hown hk hgr n0 hw0 hg hs0 hrl;unfold Cg.cs;go_enter Tryz.func9,Tryz.ntmps9;go_wp2_with (first
  |(go_at_call 34;refine(HP.o _).mono ?_;rintro e w2 ⟨ra,rc,rfl,o2,f2⟩;have H2:Hid ((iw w0.heap.size w2 b F (ak.fresh id n 16) 0∧∀k∈F,k<w1.heap.size)∧w2.ownsRow w1.heap.size 172 2 (.slice ra (bJ gr).length rc) (bJ gr).length (GQ (bJ gr))∧Fr [] w0 w2∧w0.heap.size≤w1.heap.size):=⟨⟨H1.o.1.same f2,λk hk=>(H1.o.1.1.lt k hk).2⟩,o2,H1.o.2.trans f2 (by simp),H1.o.2.size⟩;obtain⟨⟨s0',s1'⟩,s2,s3,s4,s5,s6,s7⟩:=HC.o w2 H2.o.2.2.1;clear o2 f2)
  |(go_at_call 33;refine HN.o.mono ?_;rintro e w1 ⟨b,F,rfl,s1,f1⟩;have H1:=Hj2 s1 f1;obtain⟨⟨p0,p1⟩,p2,p3,p4,p5,p6,p7⟩:=HC.o w1 f1;clear s1 f1))
 have hmk:=λW=>AO m (by omega) W;obtain⟨pc,hpc⟩:=eX (OO (List.replicate m Pr.zero)).toArray;have Xf:=Hd hpc;rw[hpc]at hmk;clear hpc;go_region_held3 (λw'=>w'.cell? ⟨cb,0,none⟩=some (.int .i64 id)∧w'.cell? ⟨cb,1,none⟩=some (.int .i64 n)∧w'.cell? ⟨cb,2,none⟩=some (.int .i64 m)∧w'.cell? ⟨cb,3,none⟩=some (.int .i64 ev)∧w'.cell? ⟨cb,4,none⟩=some (.int .i64 wt)∧w'.cell? ⟨cb,5,none⟩=some (.int .i64 cp)∧w'.cell? ⟨cb,6,none⟩=some (.string gr)∧w'.cell? ⟨cb,7,none⟩=some (.int .i64 la))
  (go_keep)
  (fail)
 all_goals
  go_wp2;have f3:Fr [] w2 ((w2.alloc (.cells pc 122)).alloc (.cells #[.p b,.i id,.i n,.i m,.i ev,.i wt,.i cp,.t gr,.i la,.slice ra rl rc,.i 0,.slice (some (Ad w2.heap.size 0)) m m] 67)).drew:=((fR.alloc _).alloc _).drew;have n4:=di (w2.alloc (.cells pc 122)) (.cells #[.p b,.i id,.i n,.i m,.i ev,.i wt,.i cp,.t gr,.i la,.slice ra rl rc,.i 0,.slice (some (Ad w2.heap.size 0)) m m] 67);have hs1:(w2.alloc (.cells pc 122)).heap.size=w2.heap.size+1:=by simp
  rw[hs1]at n4;have n5:=di w2 (.cells pc 122);obtain⟨⟨a1,hF⟩,a2,a3,hz2⟩:=H2.o;have hz1:=H0.o.size;have hz3:=a3.size;obtain⟨⟨e1,e2,e3,e4⟩,i1,i2,i3,e6,e7,e8,i7,e5,e9⟩:=JR.o;refine ez (ft rfl _ _ _) rfl ⟨⟨w0.heap.size,w2.heap.size+1,w2.heap.size,b,w1.heap.size,ra,rc⟩,rfl,_,⟨F,⟨by rw[e1];exact a1.same f3,⟨a1.new (by show w2.heap.size≤_+1;omega),?_⟩,⟨a1.new (eh _),?_⟩,?_⟩,rfl⟩,λk hk=>?_,(H0.o.trans a3 (by simp)).trans f3 (by simp)⟩
  .rw[xR,e2,e3,e4,e5,e6,e7,e8,e9,i1,i2,i3,i7,li];exact n4
  .rw[e4,Xf.o];exact(ei _ _ _ (by rw[hs1];exact Nat.lt_succ_self _)).trans n5
  .rw[e2];refine⟨dF a2 f3 (by simp),λk hk hm=>?_⟩;have:=(av a2 hk).1;have:=hF k hm;omega
  simp only[fL,fe,ek,dT]at hk;rcases hk with rfl|rfl|hk|hk
  .show w.heap.size≤w2.heap.size+1;omega
  .show w.heap.size≤w2.heap.size;omega
  .have:=(a1.1.lt k hk).1;omega
  have h9:(Value.slice ra (bJ gr).length rc).ownBlock=some k:=by simpa[xu,e2]using hk
  have:=(av a2 h9).1;omega
theorem nV(id bl:Int)(t:cC)(last:Int)(w:World)(ht:t.size≤2000000):
 Cl 13 #[.i id,.i bl,.t t,.i last] w λe w'=>(mQ id bl last t≠0∧e=.returned (.tuple #[.pointer none,.i (mQ id bl last t)])∧Fr [] w w')∨(mQ id bl last t=0∧nT id bl last∧∃p:Pl,e=.returned (.tuple #[.p p.xb,.i 0])∧jB (Ck p (AJ id bl.toNat t last) 0) w w'):=by
 by_cases hk:nT id bl last
 .have e1:mQ id bl last t=gP t:=if_pos hk;rw[e1];obtain⟨n,hn⟩:∃n:Nat,bl=(n:Int):=⟨bl.toNat,by have:=hk.1.2;omega⟩;subst hn;have HN:=Hd (Ht id n w hk.1.1 (by have:=hk.1.2;omega));have l1:¬last<1:=by have:=hk.2;omega
  have l2:¬12<last:=by have:=hk.2;omega
  obtain⟨rl,hrl⟩:=eX (bJ t).length;have HK:=Hj2 hk hrl;rcases lT t with hg|hg
  .have HP:Hid (∀W,Cl 34 #[.t t] W λe w'=>∃ra rc,e=.returned (.tuple #[.slice ra rl rc,.i 0])∧w'.ownsRow W.heap.size 172 2 (.slice ra (bJ t).length rc) (bJ t).length (GQ (bJ t))∧Fr [] W w'):=λW=>by have h9:=qD t ht W;rw[hg]at h9;rw[<-hrl];exact h9
   rw[hg];clear e1 hk hg hrl;go_enter Tryz.func13,Tryz.ntmps13;go_wp2_with (first
    |(go_at_call 34;refine(HP.o _).mono ?_;rintro e w2 ⟨ra,rc,rfl,o2,f2⟩;have H2:Hid ((iw w.heap.size w2 b F (ak.fresh id n 16) 0∧∀k∈F,k<w1.heap.size)∧w2.ownsRow w1.heap.size 172 2 (.slice ra (bJ t).length rc) (bJ t).length (GQ (bJ t))∧Fr [] w w2∧w.heap.size≤w1.heap.size):=⟨⟨H1.o.1.same f2,λk hk=>(H1.o.1.1.lt k hk).2⟩,o2,H1.o.2.trans f2 (by simp),H1.o.2.size⟩;clear o2 f2)
    |(go_at_call 33;refine HN.o.mono ?_;rintro e w1 ⟨b,F,rfl,s1,f1⟩;have H1:=Hj2 s1 f1;clear s1 f1))
   obtain⟨⟨s2,hF⟩,o2,f2,hl2⟩:=H2.o;have f3:Fr [] w2 (w2.alloc (.cells #[.p b,.slice ra rl rc,.i last] 75)):=fR.alloc _;have n3:=di w2 (.cells #[.p b,.slice ra rl rc,.i last] 75);have hw2:=f2.size;refine ez (ft rfl _ _ _) rfl (Or.inr ⟨by first|rfl|trivial,HK.o.1,⟨w.heap.size,w2.heap.size,0,b,w1.heap.size,ra,rc⟩,rfl,_,⟨F,by rw[Int.toNat_natCast];exact s2.same f3,⟨s2.new (eh _),by rw[n3,<-HK.o.2];rfl⟩,⟨dF o2 f3 (by simp),λk hk hm=>?_⟩,rfl⟩,λk hk=>?_,f2.trans f3 (by simp)⟩)
   .have:=(av o2 hk).1;have:=hF k hm;omega
   simp only[fL,fe,ek,dT]at hk;rcases hk with rfl|hk|hk
   .exact hw2
   .exact(s2.1.lt k hk).1
   have:=(av o2 (by simpa[xu,AJ]using hk)).1;omega
  have HP:Hid (∀W,Cl 34 #[.t t] W λe w'=>∃ra rc,e=.returned (.tuple #[.slice ra rl rc,.i 2])∧Fr [] W w'):=λW=>by refine(qD t ht W).mono ?_;rintro e w' ⟨ra,rc,he,_,f⟩;rw[hg,hrl]at he;exact⟨ra,rc,he,f⟩
  rw[hg];clear e1 hk hg hrl;go_enter Tryz.func13,Tryz.ntmps13;go_wp2_with (first
   |(go_at_call 34;refine(HP.o _).mono ?_;rintro e w2 ⟨ra,rc,rfl,f2⟩;have H2:=Hd (H1.o.trans f2 (by simp));clear f2)
   |(go_at_call 33;refine HN.o.mono ?_;rintro e w1 ⟨b,F,rfl,s1,f1⟩;have H1:=Hd f1;clear s1 f1))
  refine ez (ft rfl _ _ _) rfl (Or.inl ⟨by decide,rfl,H2.o⟩)
 have e1:mQ id bl last t=1:=if_neg hk;rw[e1];obtain⟨z,hz,hN⟩:=yK id bl w;have HN:=Hd hN;have hc:(z=1)∨(z=0∧last<1)∨(z=0∧¬last<1∧12<last):=by
  rcases hz with hz|hz
  .exact Or.inl hz.2
  by_cases h1:last<1
  .exact Or.inr (Or.inl ⟨hz.2,h1⟩)
  refine Or.inr (Or.inr ⟨hz.2,h1,?_⟩);by_cases h2:12<last
  .exact h2
  exact absurd ⟨hz.1,by omega,by omega⟩ hk
 clear hk e1 hz hN;rcases hc with rfl|⟨rfl,l1⟩|⟨rfl,l1,l2⟩;all_goals
  go_enter Tryz.func13,Tryz.ntmps13;go_wp2_with (go_at_call 33;refine HN.o.mono ?_;rintro e w1 ⟨x,rfl,f1⟩;have H1:=Hd f1;clear f1);refine ez (ft rfl _ _ _) rfl (Or.inl ⟨by decide,rfl,H1.o⟩)
end Go.Proofs.YtjceeemlilnplaaGreatDoor
