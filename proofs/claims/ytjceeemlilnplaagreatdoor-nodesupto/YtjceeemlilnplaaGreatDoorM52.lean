import Derived.Test.YtjceeemlilnplaaGreatDoorM50
import Derived.Test.YtjceeemlilnplaaGreatDoorM47
set_option maxRecDepth 100000
set_option maxHeartbeats 12800000
set_option linter.all false
namespace Go.Proofs.YtjceeemlilnplaaGreatDoor
open Go.RowKit Go.Maps Go.MuLone
theorem vX(c:Cg)(w:World)(hg:c.gr.size≤2000000)(h:c.err=0):Cl 8 #[.agg c.cs] w λe w'=>∃p:Pl,e=.returned (.tuple #[.p p.xb,.i 0])∧jB (qB p (nS c) 0) w w':=by
 obtain⟨hown,hk,hgr⟩:=Cg.ok h;obtain⟨s0,hs0⟩:=eX (nS c);rw[hs0];obtain⟨id,bl,np,ev,wt,cp,gr,la⟩:=c;have hown:(1≤np∧np≤3)∧(1≤ev∧ev≤1000)∧1≤wt∧wt≤cp∧cp≤1000:=hown;have hk:nT id bl la:=hk;have hgr:gP gr=0:=hgr;have hg:gr.size≤2000000:=hg;obtain⟨n,hn⟩:∃n:Nat,bl=(n:Int):=⟨bl.toNat,by have:=hk.1.2;show bl=_;omega⟩;obtain⟨m,hm⟩:∃m:Nat,np=(m:Int):=⟨np.toNat,by have:=hown.1;show np=_;omega⟩;subst hn;subst hm;have Vy:1≤m∧m≤3:=by have:=hown.1;show 1≤m∧m≤3;omega
 obtain⟨w0,hw0⟩:=eX (w.alloc (.cells #[.i id,.i n,.i m,.i ev,.i wt,.i cp,.t gr,.i la] 23));obtain⟨cb,hcb⟩:=eX w.heap.size;have n0:w0.heap[cb]?=some (.cells #[.i id,.i n,.i m,.i ev,.i wt,.i cp,.t gr,.i la] 23 (0,0)):=by rw[<-hw0,<-hcb];exact di w _
 have q0:cE w0 cb 0 id:=ce n0 rfl;have q1:cE w0 cb 1 n:=ce n0 rfl;have q2:cE w0 cb 2 m:=ce n0 rfl;have q3:cE w0 cb 3 ev:=ce n0 rfl;have q4:cE w0 cb 4 wt:=ce n0 rfl;have q5:cE w0 cb 5 cp:=ce n0 rfl;have q6:cD w0 cb 6 (.t gr):=ce n0 rfl;have q7:cE w0 cb 7 la:=ce n0 rfl;have H0:Hid (Fr [] w w0):=by rw[<-hw0];exact fR.alloc _
 obtain⟨rl,hrl⟩:=eX (bJ gr).length;have HK:Hid (∀W,Cl 32 #[.i id,.i n,.t gr,.i la] W λe w'=>∃b ra rc,e=.returned (.tuple #[.agg #[.p b,.i la,.slice ra rl rc],.i 0])∧QH W w' id n gr la b ra rc):=λW=>by rw[<-hrl];exact nW id n gr la W hg hk hgr
 have JR:Hid (s0.r=ak.fresh id n 16∧s0.rs=bJ gr∧(bJ gr).length=rl∧s0.ps=List.replicate m Pr.zero∧s0.last=la∧s0.every=ev∧s0.wait=wt∧s0.cap=cp∧s0.time=0):=by rw[<-hs0];exact⟨by simp[nS],rfl,hrl,by simp[nS],rfl,rfl,rfl,rfl,rfl⟩
 have g1:(1:Int)≤(m:Int):=by omega
 have g2:(m:Int)≤3:=by omega
 have g3:(1:Int)≤ev:=hown.2.1.1;have g4:ev≤1000:=hown.2.1.2;have g5:(1:Int)≤wt:=hown.2.2.1;have g6:wt≤cp:=hown.2.2.2.1;have g7:cp≤1000:=hown.2.2.2.2;have dV:=hw0;clear h hown hk hgr n0 hw0 hg hs0 hrl;unfold Cg.cs;go_enter Tryz.func8,Tryz.ntmps8;go_wp2_with (go_at_call 32;refine(HK.o _).mono ?_;rintro e w1 ⟨b,ra,rc,rfl,p1⟩;have f1:Fr [] w0 w1:=(by obtain⟨F,_,_,f⟩:=p1;exact f);have H1:=Hd p1;have p2:=f1.gb.cell q2 (by simp);have p3:=f1.gb.cell q3 (by simp);have p4:=f1.gb.cell q4 (by simp);have p5:=f1.gb.cell q5 (by simp);clear p1 f1);obtain⟨w2,hw2⟩:=eX (w1.alloc (.cells #[.p b,.i la,.slice ra rl rc] 95));obtain⟨kb,hkb⟩:=eX w1.heap.size;have n2:w2.heap[kb]?=some (.cells #[.p b,.i la,.slice ra rl rc] 95 (0,0)):=by rw[<-hw2,<-hkb];exact di w1 _
 have f2:Fr [] w1 w2:=by rw[<-hw2];exact fR.alloc _
 have k0:cD w2 kb 0 (.p b):=ce n2 rfl;have k1:cE w2 kb 1 la:=ce n2 rfl;have k2:cD w2 kb 2 (.slice ra rl rc):=ce n2 rfl;have s2:=f2.gb.cell p2 (by simp);have s3:=f2.gb.cell p3 (by simp);have s4:=f2.gb.cell p4 (by simp);have s5:=f2.gb.cell p5 (by simp);have H2:Hid ((∃F,Sk w0.heap.size w2 b F (ak.fresh id n 16) 0∧Rw F w2 w0.heap.size ra (bJ gr) rc)∧Fr [] w w2∧w.heap.size≤w0.heap.size∧w0.heap.size≤w2.heap.size):=by obtain⟨F,a1,a2,a3⟩:=H1.o;exact⟨⟨F,a1.same f2,a2.same f2⟩,(H0.o.trans a3 (by simp)).trans f2 (by simp),H0.o.size,eJ a3.size f2.size⟩
 have hmk:=λW=>Ei m (by omega) W;obtain⟨pc,hpc⟩:=eX (K3 (List.replicate m Pr.zero)).toArray;have Xf:=Hd hpc;rw[hpc]at hmk;rw[hw2,hkb];clear hpc n2 f2 hw2 p2 p3 p4 p5 q0 q1 q2 q3 q4 q5 q6 q7;go_region_held3 (λw'=>w'.cell? ⟨cb,2,none⟩=some (.int .i64 m)∧w'.cell? ⟨cb,3,none⟩=some (.int .i64 ev)∧w'.cell? ⟨cb,4,none⟩=some (.int .i64 wt)∧w'.cell? ⟨cb,5,none⟩=some (.int .i64 cp)∧w'.cell? ⟨kb,0,none⟩=some (.pointer (some ⟨b,0,none⟩))∧w'.cell? ⟨kb,1,none⟩=some (.int .i64 la)∧w'.cell? ⟨kb,2,none⟩=some (.slice ra rl rc))
  (go_keep)
  (fail)
 all_goals
  go_wp2;have f3:Fr [] w2 ((w2.alloc (.cells pc 120)).alloc (.cells #[.p b,.i la,.slice ra rl rc,.i ev,.i wt,.i cp,.i 0,.slice (some (Ad w2.heap.size 0)) m m] 100)).drew:=((fR.alloc _).alloc _).drew;have n4:=di (w2.alloc (.cells pc 120)) (.cells #[.p b,.i la,.slice ra rl rc,.i ev,.i wt,.i cp,.i 0,.slice (some (Ad w2.heap.size 0)) m m] 100);have hs1:(w2.alloc (.cells pc 120)).heap.size=w2.heap.size+1:=by simp
  rw[hs1]at n4;have n5:=di w2 (.cells pc 120);obtain⟨⟨F,a1,a2⟩,a3,hz1,hz2⟩:=H2.o;obtain⟨e1,e2,e3,e4,e5,e6,e7,e8,e9⟩:=JR.o;refine ez (ft rfl _ _ _) rfl ⟨⟨w0.heap.size,w2.heap.size+1,w2.heap.size,b,w0.heap.size,ra,rc⟩,rfl,_,⟨F,⟨by rw[e1];exact a1.same f3,⟨a1.new (by show w2.heap.size≤_+1;omega),?_⟩,⟨a1.new (eh _),?_⟩,by rw[e2];exact a2.same f3⟩,rfl⟩,λk hk=>?_,a3.trans f3 (by simp)⟩
  .rw[xP,e2,e3,e4,e5,e6,e7,e8,e9,li];exact n4
  .rw[e4,Xf.o];exact(ei _ _ _ (by rw[hs1];exact Nat.lt_succ_self _)).trans n5
  simp only[fL,fe,ek,dT]at hk;rcases hk with rfl|rfl|hk|hk
  .show w.heap.size≤w2.heap.size+1;omega
  .show w.heap.size≤w2.heap.size;omega
  .have:=(a1.1.lt k hk).1;omega
  have h9:(Value.slice ra (bJ gr).length rc).ownBlock=some k:=by simpa[xu,e2]using hk
  have:=(av a2.1 h9).1;omega
structure Mn where
 nb:Nat
 x1:Value
 x2:Value
 sv:Value
 x3:Value
 x4:Value
 ds:List Value
 xs:List Value
 ys:List Value
 Z:List (Nat×Value×Value)
abbrev bL:Value:=.slice none 0 0
structure GV(B:Nat)(M:Mn)(W:World):Prop where
 blk:W.heap[M.nb]?=some (.cells #[M.sv,bL,bL,bL,M.x1,M.x2,M.x3,M.x4,bL] 47 (0,0))
 so:W.ownsRow B 55 1 M.sv M.ds.length M.ds
 xo:W.ownsRow B 68 1 M.x3 M.xs.length M.xs
 yo:W.ownsRow B 71 1 M.x4 M.ys.length M.ys
 z:∀d∈M.Z,W.heap[d.1]?=some (.cells #[d.2.1,d.2.2,bL] 54 (0,0))
 hw:B≤M.nb
def FB(M:Mn):List Nat:=M.nb::(vsB [M.sv,M.x3,M.x4]++M.Z.map (λd=>d.1))
def Ef(B:Nat)(M:Mn):Lm:=λG W=>GV B M W∧G=FB M
section
variable {L:Ly}{A C:Nt}{n B:Nat}{X:Nat->Option Row}{Λ:Lm}{w0 W W' w9 W1 W2:World}{M M':Mn}{F:List Nat}{p q:Pl}{x:Rp}{v:Value}
theorem dH{k:Nat}:k∈FB M↔k=M.nb∨(∃v∈[M.sv,M.x3,M.x4],v.ownBlock=some k)∨∃d∈M.Z,d.1=k:=by unfold FB;rw[ek,dT,Cj];simp only[fm]
theorem GV.off(h:GV B M W)(f:Fr F W W')(hn:∀k∈FB M,k∉F):GV B M W':=by have hv:∀v∈[M.sv,M.x3,M.x4],∀k,v.ownBlock=some k->k∉F:=λv hv k hk=>hn k (dH.2 (Or.inr (Or.inl ⟨v,hv,hk⟩)));refine⟨(f.block _ (cY.1 h.blk).1 (hn _ (dH.2 (Or.inl rfl)))).trans h.blk,dF h.so f (hv _ (by simp)),dF h.xo f (hv _ (by simp)),dF h.yo f (hv _ (by simp)),λd hd=>?_,h.hw⟩;have h9:=h.z d hd;exact(f.block _ (cY.1 h9).1 (hn _ (dH.2 (Or.inr (Or.inr ⟨d,hd,rfl⟩))))).trans h9
theorem GV.lt(h:GV B M W):∀k∈FB M,k<W.heap.size:=λk hk=>by
 rcases dH.1 hk with rfl|⟨v,hv,hk⟩|⟨d,hd,rfl⟩
 .exact(cY.1 h.blk).1
 .simp only[ek,fy,or_false]at hv;rcases hv with rfl|rfl|rfl
  .exact(h.so.lt k hk).2
  .exact(h.xo.lt k hk).2
  exact(h.yo.lt k hk).2
 exact(cY.1 (h.z d hd)).1
theorem GX:AA (Ef B M):=⟨λG E W W' h f hn=>⟨h.1.off f (by rw[<-h.2];exact hn),h.2⟩,λG W h=>by rw[h.2];exact h.1.lt⟩
theorem NP.mk(h:NP L A C n X (Ef B M) w0 W):GV B M W:=by obtain⟨G,h1,_⟩:=NP.law h;exact h1.1
theorem NP.KT(h:NP L A C n X (Ef B M) w0 W)(f:Fr (FB M) W W')(h':GV B M' W')(hn:∀k∈FB M',k∈FB M∨W.heap.size≤k):NP L A C n X (Ef B M') w0 W':=by obtain⟨G,h1,_,_,h2⟩:=NP.law h;exact h2 _ _ _ GX ⟨by rw[h1.2];exact f,λk hk=>by rw[h1.2];exact hn k hk⟩ ⟨h',rfl⟩
theorem NP.Ou(h:NP L A C n X (Ef B M) w0 W)(a b:Value):NP L A C n X (Ef B {M with Z:=M.Z++[(W.heap.size,a,b)]}) w0 (W.alloc (.cells #[a,b,bL] 54)):=by
 have h1:=h.mk;have f:Fr [] W (W.alloc (.cells #[a,b,bL] 54)):=fR.alloc _;have h2:=h1.off f (by simp);refine h.KT (f.mono (by simp)) ⟨h2.blk,h2.so,h2.xo,h2.yo,λd hd=>?_,h2.hw⟩ λk hk=>?_
 .rcases dT.1 hd with hd|hd
  .exact h2.z d hd
  rw[j8.1 hd];exact di W _
 rcases dH.1 hk with r|r|⟨d,hd,rfl⟩
 .exact Or.inl (dH.2 (Or.inl r))
 .exact Or.inl (dH.2 (Or.inr (Or.inl r)))
 rcases dT.1 hd with hd|hd
 .exact Or.inl (dH.2 (Or.inr (Or.inr ⟨d,hd,rfl⟩)))
 rw[j8.1 hd];exact Or.inr (eh _)
theorem GV.grow{t:TypeId}{u:Value}{k c:Nat}{us:List Value}(h:GV B M W)(hu:W.ownsRow B t 1 u k us)(ht:t≠47)(f:Fr u.ownBlock.toList W w9)(v':Value):(u.ownBlock≠some M.nb)∧(w9.setCell (Ad M.nb c) v').heap[M.nb]?=some (.cells (#[M.sv,bL,bL,bL,M.x1,M.x2,M.x3,M.x4,bL].set! c v') 47 (0,0))∧(∀e v k xs,e≠47->e≠t->W.ownsRow B e 1 v k xs->(w9.setCell (Ad M.nb c) v').ownsRow B e 1 v k xs)∧(∀v k xs,w9.ownsRow B t 1 v k xs->(w9.setCell (Ad M.nb c) v').ownsRow B t 1 v k xs)∧(t≠54->∀d∈M.Z,(w9.setCell (Ad M.nb c) v').heap[d.1]?=some (.cells #[d.2.1,d.2.2,bL] 54 (0,0)))∧Fr (M.nb::u.ownBlock.toList) W (w9.setCell (Ad M.nb c) v'):=by
 have hx:∀j∈u.ownBlock.toList,∃cur,W.heap[j]?=some (.cells cur t (0,0)):=λj hj=>(av hu (by simpa using hj)).2;have hnF:M.nb∉u.ownBlock.toList:=λhm=>by obtain⟨cur,e⟩:=hx _ hm;rw[h.blk]at e;simp at e;exact ht e.2.symm
 have b9:=(f.block _ (cY.1 h.blk).1 hnF).trans h.blk;have hset:∀{e:TypeId}{k:Nat}{u:Value}{xs:List Value},e≠47->w9.ownsRow B e 1 u k xs->(w9.setCell (Ad M.nb c) v').ownsRow B e 1 u k xs:=λ{e k u xs}he ho=>aj ho λj hj=>de _ _ _ _ λe9=>by obtain⟨_,cur,h4⟩:=av ho hj;rw[e9,b9]at h4;simp at h4;exact he h4.2.symm
 have hoth:∀e:TypeId,e≠t->∀j∈u.ownBlock.toList,∀cur,W.heap[j]?≠some (.cells cur e (0,0)):=λe he j hj cur h4=>by obtain⟨cur',e'⟩:=hx j hj;rw[e']at h4;simp at h4;exact he h4.2.symm
 refine⟨λe=>hnF (by simp[e]),dy _ _ _ _ _ _ b9,λe v k xs h1 h2 ho=>hset h1 (aM ho f (hoth e h2)),λv k xs ho=>hset ht ho,λh54 d hd=>?_,(f.mono λk hk=>j9 _ hk).setCell _ (Or.inl (by simp))⟩;have h9:=h.z d hd;have h8:=(f.block _ (cY.1 h9).1 λhm=>hoth 54 (Ne.symm h54) _ hm _ h9).trans h9;rw[de _ _ _ _ λe9=>?_]
 .exact h8
 rw[e9,b9]at h8;simp at h8
theorem vV{k:Nat}{u v':Value}(hk:k∈FB M')(hu:u∈[M.sv,M.x3,M.x4])(hz:M'.Z=M.Z)(hb:M'.nb=M.nb)(hs:∀v∈[M'.sv,M'.x3,M'.x4],v=v'∨v∈[M.sv,M.x3,M.x4])(hv:∀k,v'.ownBlock=some k->u.ownBlock=some k∨W.heap.size≤k):k∈FB M∨W.heap.size≤k:=by
 rcases dH.1 hk with r|⟨v,h1,h2⟩|r
 .exact Or.inl (dH.2 (Or.inl (by rw[r,hb])))
 .rcases hs v h1 with e|h1
  .rw[e]at h2;exact(hv k h2).imp_left λh9=>dH.2 (Or.inr (Or.inl ⟨u,hu,h9⟩))
  exact Or.inl (dH.2 (Or.inr (Or.inl ⟨v,h1,h2⟩)))
 rw[hz]at r;exact Or.inl (dH.2 (Or.inr (Or.inr r)))
theorem GY{u:Value}(hu:u∈[M.sv,M.x3,M.x4])(f:Fr (M.nb::u.ownBlock.toList) W W'):Fr (FB M) W W':=f.mono λk hk=>by
 rcases ek.1 hk with rfl|hk
 .exact dH.2 (Or.inl rfl)
 exact dH.2 (Or.inr (Or.inl ⟨u,hu,by simpa using hk⟩))
theorem NP.mk3(h:NP L A C n X (Ef B M) w0 W){v':Value}(f:Fr M.x3.ownBlock.toList W w9)(ho:w9.ownsRow B 68 1 v' (M.xs.length+1) (M.xs++[v]))(hv:∀k,v'.ownBlock=some k->M.x3.ownBlock=some k∨W.heap.size≤k):NP L A C n X (Ef B {M with x3:=v',xs:=M.xs++[v]}) w0 (w9.setCell (Ad M.nb 6) v'):=by have h1:=h.mk;obtain⟨_,a2,a3,a4,a5,a6⟩:=h1.grow (c:=6) h1.xo (by decide) f v';exact h.KT (GY (by simp) a6) ⟨a2,a3 _ _ _ _ (by decide) (by decide) h1.so,by rw[dE];exact a4 _ _ _ ho,a3 _ _ _ _ (by decide) (by decide) h1.yo,a5 (by decide),h1.hw⟩ λk hk=>vV (M:=M) (u:=M.x3) (v':=v') hk (by simp) rfl rfl (λv hv=>by simp at hv⊢;rcases hv with r|r|r<;>simp[r]) hv
theorem NP.mk4(h:NP L A C n X (Ef B M) w0 W){v':Value}(f:Fr M.x4.ownBlock.toList W w9)(ho:w9.ownsRow B 71 1 v' (M.ys.length+1) (M.ys++[v]))(hv:∀k,v'.ownBlock=some k->M.x4.ownBlock=some k∨W.heap.size≤k):NP L A C n X (Ef B {M with x4:=v',ys:=M.ys++[v]}) w0 (w9.setCell (Ad M.nb 7) v'):=by have h1:=h.mk;obtain⟨_,a2,a3,a4,a5,a6⟩:=h1.grow (c:=7) h1.yo (by decide) f v';exact h.KT (GY (by simp) a6) ⟨a2,a3 _ _ _ _ (by decide) (by decide) h1.so,a3 _ _ _ _ (by decide) (by decide) h1.xo,by rw[dE];exact a4 _ _ _ ho,a5 (by decide),h1.hw⟩ λk hk=>vV (M:=M) (u:=M.x4) (v':=v') hk (by simp) rfl rfl (λv hv=>by simp at hv⊢;rcases hv with r|r|r<;>simp[r]) hv
theorem NP.mk0(h:NP L A C n X (Ef B M) w0 W){v':Value}(f:Fr M.sv.ownBlock.toList W w9)(ho:w9.ownsRow B 55 1 v' (M.ds.length+1) (M.ds++[v]))(hv:∀k,v'.ownBlock=some k->M.sv.ownBlock=some k∨W.heap.size≤k):NP L A C n X (Ef B {M with sv:=v',ds:=M.ds++[v]}) w0 (w9.setCell (Ad M.nb 0) v'):=by have h1:=h.mk;obtain⟨_,a2,a3,a4,a5,a6⟩:=h1.grow (c:=0) h1.so (by decide) f v';exact h.KT (GY (by simp) a6) ⟨a2,by rw[dE];exact a4 _ _ _ ho,a3 _ _ _ _ (by decide) (by decide) h1.xo,a3 _ _ _ _ (by decide) (by decide) h1.yo,a5 (by decide),h1.hw⟩ λk hk=>vV (M:=M) (u:=M.sv) (v':=v') hk (by simp) rfl rfl (λv hv=>by simp at hv⊢;rcases hv with r|r|r<;>simp[r]) hv
def Ly.add(L:Ly)(p q:Pl)(d:Nat):Ly:=⟨λj=>if j=L.m+1 then p else L.p j,λj=>if j=L.m+1 then q else L.r j,L.nb,λj=>if j=L.m+1 then d else L.d j,L.m+1⟩
theorem NQ.fresh{Q:Qs}{fp:Ix->List Nat}{T:List Nat->World->Prop}{G:List Nat}(i:Ix)(hP:KU Q)(h:NQ Q w0 W fp)(hT:∀G E W W',T G W->Fr E W W'->(∀k∈G,k∉E)->T G W')(hl:∀G W,T G W->∀k∈G,k<W.heap.size)(hG:T G W')(hk:∀k∈G,W.heap.size≤k)(f:Fr [] W W'):KU (λ(j:Ix)G W=>if j=i then T G W else Q j G W)∧NQ (λ(j:Ix)G W=>if j=i then T G W else Q j G W) w0 W' (GZ fp i G):=by
 refine⟨⟨λj G E W W' h f hn=>?_,λj G W h=>?_⟩,?_⟩
 .by_cases e:j=i
  .simp only[e,if_true]at h⊢;exact hT G E W W' h f hn
  simp only[e,if_false]at h⊢;exact hP.off j G E W W' h f hn
 .by_cases e:j=i
  .simp only[e,if_true]at h;exact hl G W h
  simp only[e,if_false]at h;exact hP.lt j G W h
 have h1:=h.same hP f;refine h1.put (λk hk'=>⟨⟨?_,hl G W' hG k hk'⟩,λj _ hm=>?_⟩) (by simp only[if_true];exact hG) λj hj G W hq=>by simp only[hj,if_false];exact hq
 .have:=h.fr.size;have:=hk k hk';omega
 have:=(h.ge j k hm).2;have:=hk k hk';omega
theorem NP.add(h:NP L A A 0 X Λ w0 W)(h1:jB (AB p x 0) W W1)(h2:jB (Ck q x 0) W1 W2)(d:Nat):NP (L.add p q d) (A.fQ (L.m+1) x) (A.fQ (L.m+1) x) 0 X Λ w0 W2:=by
 obtain⟨hL,fp,h⟩:=h;obtain⟨G1,a1,a2,a3⟩:=h1;obtain⟨G2,b1,b2,b3⟩:=h2;obtain⟨P1,N1⟩:=h.fresh (1,L.m+1) (bQ hL) (T:=AB p x 0) (λG E W W'=>AB.off) (λG W=>AB.lt) a1 a2 a3;obtain⟨P2,N2⟩:=N1.fresh (2,L.m+1) P1 (T:=Ck q x 0) (λG E W W'=>Ck.off) (λG W=>Ck.lt) b1 b2 b3;refine⟨hL,_,N2.up λi G W hq=>?_⟩;by_cases e2:i=(2,L.m+1)
 .simp only[e2,if_true]at hq;rw[e2,rH];unfold iP;rw[if_neg (by omega),if_pos (show L.m+1≤(L.add p q d).m from eh _)];simpa[Ly.add,Nt.fQ]using hq
 rw[if_neg e2]at hq;by_cases e1:i=(1,L.m+1)
 .simp only[e1,if_true]at hq;rw[e1,rJ];unfold iJ;rw[if_neg (by omega),if_pos (show L.m+1≤(L.add p q d).m from eh _)];simpa[Ly.add,Nt.fQ]using hq
 rw[if_neg e1]at hq;unfold fJ at hq⊢;split
 .rename_i e;rw[if_pos e]at hq;exact hq
 rename_i e;rw[if_neg e]at hq;split
 .rename_i e;rw[if_pos e]at hq;have hne:i.2≠L.m+1:=λe9=>e1 (Prod.ext e e9);unfold iJ at hq⊢;split
  .rename_i e0;rw[if_pos e0]at hq;simpa[Ly.add,Nt.fQ]using hq
  rename_i e0;rw[if_neg e0]at hq;by_cases hle:i.2≤L.m
  .rw[if_pos hle]at hq;rw[if_pos (show i.2≤(L.add p q d).m by show _≤L.m+1;omega)];simpa[Ly.add,Nt.fQ,hne]using hq
  rw[if_neg hle]at hq;rw[if_neg (show ¬i.2≤(L.add p q d).m by show ¬_≤L.m+1;omega)];exact hq
 rename_i e;rw[if_neg e]at hq;split
 .rename_i e;rw[if_pos e]at hq;have hne:i.2≠L.m+1:=λe9=>e2 (Prod.ext e e9);unfold iP at hq⊢;split
  .rename_i e0;rw[if_pos e0]at hq;simpa[Ly.add,Nt.fQ]using hq
  rename_i e0;rw[if_neg e0]at hq;by_cases hle:i.2≤L.m
  .rw[if_pos hle]at hq;rw[if_pos (show i.2≤(L.add p q d).m by show _≤L.m+1;omega)];simpa[Ly.add,Nt.fQ,hne]using hq
  rw[if_neg hle]at hq;rw[if_neg (show ¬i.2≤(L.add p q d).m by show ¬_≤L.m+1;omega)];exact hq
 rename_i e;rw[if_neg e]at hq;exact hq
end
end Go.Proofs.YtjceeemlilnplaaGreatDoor
