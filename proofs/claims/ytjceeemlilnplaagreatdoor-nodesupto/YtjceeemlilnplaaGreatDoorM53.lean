import Derived.Test.YtjceeemlilnplaaGreatDoorM52
import Derived.Test.YtjceeemlilnplaaGreatDoorM30
import Derived.StillTailTactics
set_option maxRecDepth 100000
set_option maxHeartbeats 12800000
set_option linter.all false
namespace Go.Proofs.YtjceeemlilnplaaGreatDoor
open Go.RowKit Go.Maps Go.MuLone
structure Gd(L:Ly)(M:Mn)(a b c z:Nat):Prop where
 nb:M.nb=L.nb
 x1:M.x1=ptr (L.p 0).xb
 x2:M.x2=ptr (L.r 0).xb
 xs:M.xs=(List.range a).map λi=>ptr (L.p (i+1)).xb
 ys:M.ys=(List.range b).map λi=>ptr (L.r (i+1)).xb
 ds:M.ds=(List.range c).map λi=>ptr (L.d i)
 z:∀i,i<z->(L.d i,ptr (L.p i).b,ptr (L.r i).b)∈M.Z
def MS(w0:World)(nb np m a b c z:Nat)(p q:Pl)(d:Nat)(W:World):Prop:=∃L A M,NP L A A 0 fH (Ef w0.heap.size M) w0 W∧Gd L M a b c z∧(L.m=m∧L.nb=nb∧L.p m=p∧L.r m=q∧L.d m=d)∧eB np 0 A
section
variable {w0 w1 W W' W1 W2 w9:World}{nb np m a b c z d i:Nat}{p q p' q':Pl}{x:Rp}{L:Ly}{M:Mn}{A:Nt}{v9:Value}
theorem MS.same(h:MS w0 nb np m a b c z p q d W)(f:Fr [] W W'):MS w0 nb np m a b c z p q d W':=by obtain⟨L,A,M,h1,h2⟩:=h;exact⟨L,A,M,h1.same f,h2⟩
theorem MS.fr(h:MS w0 nb np m a b c z p q d W):Fr [] w0 W:=by obtain⟨L,A,M,h1,h2⟩:=h;obtain⟨_,_,_,f,_⟩:=NP.law h1;exact f
theorem MS.new(h:MS w0 nb np i i i (i+1) (i+1) p q d W)(h1:jB (AB p' x 0) W W1)(h2:jB (Ck q' x 0) W1 W2)(hx:pX x)(d':Nat):MS w0 nb np (i+1) i i (i+1) (i+1) p' q' d' W2:=by
 obtain⟨L,A,M,h3,g,⟨e1,e2,_⟩,hA⟩:=h;subst e1;refine⟨L.add p' q' d',_,M,h3.add h1 h2 d',⟨g.nb,?_,?_,?_,?_,?_,λi hi=>?_⟩,⟨rfl,e2,by simp[Ly.add],by simp[Ly.add],by simp[Ly.add]⟩,hA.fQ hx⟩
 .rw[g.x1];simp[Ly.add]
 .rw[g.x2];simp[Ly.add]
 .rw[g.xs];refine List.map_congr_left λj hj=>?_;have:=gk.1 hj;simp[Ly.add,show j≠L.m by omega]
 .rw[g.ys];refine List.map_congr_left λj hj=>?_;have:=gk.1 hj;simp[Ly.add,show j≠L.m by omega]
 .rw[g.ds];refine List.map_congr_left λj hj=>?_;have:=gk.1 hj;simp[Ly.add,show j≠L.m+1 by omega]
 have h9:=g.z i (by omega);simp only[Ly.add,show i≠L.m+1 by omega,if_false];exact h9
theorem MS.side(h:MS w0 nb np m a b c m p q W.heap.size W):MS w0 nb np m a b c (m+1) p q W.heap.size (W.alloc (.cells #[ptr p.b,ptr q.b,bL] 54)):=by
 obtain⟨L,A,M,h3,g,⟨e1,e2,e3,e4,e5⟩,hA⟩:=h;refine⟨L,A,_,h3.Ou _ _,⟨g.nb,g.x1,g.x2,g.xs,g.ys,g.ds,λi hi=>?_⟩,⟨e1,e2,e3,e4,e5⟩,hA⟩;by_cases e:i=m
 .rw[e,e3,e4,e5];exact List.mem_append_right _ (j8.2 rfl)
 exact List.mem_append_left _ (g.z i (by omega))
theorem MS.cells(h:MS w0 nb np m a b c z p q d W):W.cell? (Ad p.xb 0)=some (ptr p.b)∧W.cell? (Ad q.xb 0)=some (ptr q.b):=by
 obtain⟨L,A,M,h3,g,⟨e1,e2,e3,e4,e5⟩,hA⟩:=h;obtain⟨G,h1,_⟩:=NP.SH h3 m;obtain⟨G',h2,_⟩:=NP.ML h3 m;unfold iJ at h1;unfold iP at h2;by_cases e:m=0
 .rw[if_pos e]at h1 h2;subst e;rw[e3]at h1;rw[e4]at h2;obtain⟨F,h1,_⟩:=h1;obtain⟨F',h2,_⟩:=h2;exact⟨ce h1.blk.2 rfl,ce h2.blk.2 rfl⟩
 rw[if_neg e,if_pos (by omega)]at h1 h2;rw[e3]at h1;rw[e4]at h2;obtain⟨F,_,h1,_⟩:=h1;obtain⟨F',_,h2,_⟩:=h2;exact⟨ce h1.2 rfl,ce h2.2 rfl⟩
theorem rM{u v':Value}{o:Obj}(h:v'.ownBlock=u.ownBlock∨v'.ownBlock=some (W.alloc o).heap.size):∀k,v'.ownBlock=some k->u.ownBlock=some k∨W.heap.size≤k:=λk hk=>by
 rcases h with h|h
 .exact Or.inl (by rw[<-h];exact hk)
 rw[hk]at h;have:k=(W.alloc o).heap.size:=by simpa using h
 simp at this;exact Or.inr (by omega)
def Pu(P Q:World->Prop)(B nb c n:Nat)(t:TypeId)(v:Value):Prop:=∀W,P W->∃wa wc xs,W.cell? (Ad nb c)=some (.slice wa n wc)∧W.ownsRow B t 1 (.slice wa n wc) n xs∧B≤W.heap.size∧∀v9 w9,(W.alloc (.cells #[v] t)).grownBy w9 (Value.slice wa n wc).ownBlock->w9.ownsRow B t 1 v9 (n+1) (xs++[v])->(v9.ownBlock=(Value.slice wa n wc).ownBlock∨v9.ownBlock=some (W.alloc (.cells #[v] t)).heap.size)->(w9.cell? (Ad nb c)=some (.slice wa n wc)∧w9.frozen? (Ad nb c)=false)∧Q (w9.setCell (Ad nb c) v9)
theorem vW{t:TypeId}{u:Value}{k c B:Nat}{us:List Value}{o:Obj}(h:GV B M W)(hu:W.ownsRow B t 1 u k us)(ht:t≠47)(hg:(W.alloc o).grownBy w9 u.ownBlock)(v:Value)(hc:#[M.sv,bL,bL,bL,M.x1,M.x2,M.x3,M.x4,bL][c]?=some v):w9.cell? (Ad M.nb c)=some v∧w9.frozen? (Ad M.nb c)=false:=by have f:=jV hg;have hne:=(h.grow (c:=c) hu ht f v).1;have b9:=(f.block _ (cY.1 h.blk).1 (by simpa usingλe=>hne e)).trans h.blk;exact⟨by rw[cell_of b9];exact hc,ay b9 _⟩
theorem MS.p3(hm:m=i+1):Pu (MS w0 nb np m i i c z p q d) (MS w0 nb np m (i+1) i c z p q d) w0.heap.size nb 6 i 68 (ptr p.xb):=by
 rintro W ⟨L,A,M,h3,g,⟨e1,e2,e3,e4,e5⟩,hA⟩;have h:=h3.mk;have hl:M.xs.length=i:=by rw[g.xs];simp
 have hb:=h.blk;have hnb:=g.nb.trans e2;have hx:=h.xo;rw[hl]at hx;obtain⟨wa,wc,hv⟩:=ah hx;rw[hv]at hx;obtain⟨_,_,_,f0,_⟩:=NP.law h3;refine⟨wa,wc,M.xs,by rw[<-hnb,cell_of hb,<-hv];rfl,hx,f0.size,λv9 w9 hg ho hat=>⟨?_,L,A,{M with x3:=v9,xs:=M.xs++[ptr p.xb]},?_,⟨g.nb,g.x1,g.x2,?_,g.ys,g.ds,g.z⟩,⟨e1,e2,e3,e4,e5⟩,hA⟩⟩
 .rw[<-hnb];exact vW h hx (by decide) hg _ (by rw[<-hv];rfl)
 .rw[<-hnb];exact h3.mk3 (v':=v9) (v:=ptr p.xb) (by rw[hv];exact jV hg) (by rw[hl];exact ho) (by rw[hv];exact rM hat)
 show M.xs++[ptr p.xb]=_;rw[g.xs,jn,fj,List.map_singleton,<-hm,e3]
theorem MS.p4(hm:m=i+1):Pu (MS w0 nb np m a i c z p q d) (MS w0 nb np m a (i+1) c z p q d) w0.heap.size nb 7 i 71 (ptr q.xb):=by
 rintro W ⟨L,A,M,h3,g,⟨e1,e2,e3,e4,e5⟩,hA⟩;have h:=h3.mk;have hl:M.ys.length=i:=by rw[g.ys];simp
 have hb:=h.blk;have hnb:=g.nb.trans e2;have hx:=h.yo;rw[hl]at hx;obtain⟨wa,wc,hv⟩:=ah hx;rw[hv]at hx;obtain⟨_,_,_,f0,_⟩:=NP.law h3;refine⟨wa,wc,M.ys,by rw[<-hnb,cell_of hb,<-hv];rfl,hx,f0.size,λv9 w9 hg ho hat=>⟨?_,L,A,{M with x4:=v9,ys:=M.ys++[ptr q.xb]},?_,⟨g.nb,g.x1,g.x2,g.xs,?_,g.ds,g.z⟩,⟨e1,e2,e3,e4,e5⟩,hA⟩⟩
 .rw[<-hnb];exact vW h hx (by decide) hg _ (by rw[<-hv];rfl)
 .rw[<-hnb];exact h3.mk4 (v':=v9) (v:=ptr q.xb) (by rw[hv];exact jV hg) (by rw[hl];exact ho) (by rw[hv];exact rM hat)
 show M.ys++[ptr q.xb]=_;rw[g.ys,jn,fj,List.map_singleton,<-hm,e4]
theorem MS.p0:Pu (MS w0 nb np m a b m z p q d) (MS w0 nb np m a b (m+1) z p q d) w0.heap.size nb 0 m 55 (ptr d):=by
 rintro W ⟨L,A,M,h3,g,⟨e1,e2,e3,e4,e5⟩,hA⟩;have h:=h3.mk;have hl:M.ds.length=m:=by rw[g.ds];simp
 have hb:=h.blk;have hnb:=g.nb.trans e2;have hx:=h.so;rw[hl]at hx;obtain⟨wa,wc,hv⟩:=ah hx;rw[hv]at hx;obtain⟨_,_,_,f0,_⟩:=NP.law h3;refine⟨wa,wc,M.ds,by rw[<-hnb,cell_of hb,<-hv];rfl,hx,f0.size,λv9 w9 hg ho hat=>⟨?_,L,A,{M with sv:=v9,ds:=M.ds++[ptr d]},?_,⟨g.nb,g.x1,g.x2,g.xs,g.ys,?_,g.z⟩,⟨e1,e2,e3,e4,e5⟩,hA⟩⟩
 .rw[<-hnb];exact vW h hx (by decide) hg _ (by rw[<-hv];rfl)
 .rw[<-hnb];exact h3.mk0 (v':=v9) (v:=ptr d) (by rw[hv];exact jV hg) (by rw[hl];exact ho) (by rw[hv];exact rM hat)
 show M.ds++[ptr d]=_;rw[g.ds,jn,fj,List.map_singleton,e5]
theorem NP.base{C:Nt}{n:Nat}{Λ:Lm}(h:NP L A C n fH Λ w1 W)(f:Fr [] w0 w1):NP L A C n fH Λ w0 W:=by
 obtain⟨h1,fp,h⟩:=h;refine⟨h1,fp,h.ap,λi k hk=>?_,f.trans h.fr (by simp),λi=>?_⟩
 .have:=h.ge i k hk;have:=f.size;omega
 have h9:=h.q i;unfold fJ at h9⊢;exact h9
theorem MS.done(h:MS w1 nb np np np np (np+1) (np+1) p q d W)(f:Fr [] w0 w1):∃L A V,NW L A A 0 fH V w0 W∧(L.nb=nb∧L.m=np)∧eB np 0 A∧mV np 0 V:=by
 obtain⟨L,A,M,h3,g,⟨e1,e2,_⟩,hA⟩:=h;have hb:=f.size;obtain⟨G,⟨h1,hG⟩,_,_,h2⟩:=NP.law (h3.base f);refine⟨L,A,⟨⟨M.sv,bL,[],(List.range (L.m+1)).map L.d,M.x1,M.x2,M.x3,M.x4,bL⟩,bL,bL,[],[],[]⟩,h2 _ _ _ Az ⟨fR,λk hk=>Or.inl ?_⟩ ⟨?_,rfl⟩,⟨e2,e1⟩,hA,⟨⟨rfl,rfl⟩,⟨dC _,dC _⟩,⟨by simp,by simp⟩,by simp,dC _,by simp,dC _⟩⟩
 .rw[hG];rcases aU.1 hk with r|⟨u,hu,hk2⟩|⟨u,hu,_⟩|⟨u,hu,_⟩|⟨j,hj,hk2⟩
  .exact dH.2 (Or.inl (by rw[r,g.nb]))
  .simp only[ek,fy,or_false]at hu;have hno:∀k:Nat,bL.ownBlock≠some k:=λk e=>by simp[Value.ownBlock]at e
   rcases hu with rfl|rfl|rfl|rfl|rfl|rfl|rfl
   .exact dH.2 (Or.inr (Or.inl ⟨M.sv,by simp,hk2⟩))
   .exact absurd hk2 (hno k)
   .exact absurd hk2 (hno k)
   .exact absurd hk2 (hno k)
   .exact dH.2 (Or.inr (Or.inl ⟨M.x3,by simp,hk2⟩))
   .exact dH.2 (Or.inr (Or.inl ⟨M.x4,by simp,hk2⟩))
   exact absurd hk2 (hno k)
  .simp at hu
  .simp at hu
  exact dH.2 (Or.inr (Or.inr ⟨_,g.z j (by omega),hk2⟩))
 have hnil:∀e:TypeId,∀s,W.ownsRow w0.heap.size e s bL 0 []:=λe s=>eA _ _ _ _;refine⟨⟨by rw[<-g.nb];exact h1.blk,?_,hnil _ _,hnil _ _,λi x hx=>by simp at hx,λi x hx=>by simp at hx,by rw[<-g.nb];exact eJ hb h1.hw,hnil _ _⟩,g.x1,g.x2,rfl,λi hi=>h1.z _ (g.z i (by omega)),?_,?_,hnil _ _⟩
 .have h9:=dD h1.so hb;rw[g.ds]at h9;rw[e1];simpa[ptr,Function.comp_def]using h9
 .have h9:=dD h1.xo hb;rw[g.xs]at h9;rw[e1];simpa[ptr]using h9
 have h9:=dD h1.yo hb;rw[g.ys]at h9;rw[e1];simpa[ptr]using h9
theorem MS.begin{cf:Cg}(he:cf.err=0)(h1:jB (qB p (nS cf) 0) w0 W1)(h2:jB (rF q (nS cf) 0) W1 W2)(hp:cf.np.toNat=np)(d:Nat):MS w0 W2.heap.size np 0 0 0 0 0 p q d (W2.alloc (.cells #[bL,bL,bL,bL,ptr p.xb,ptr q.xb,bL,bL,bL] 47)):=by
 obtain⟨G1,a1,a2,a3⟩:=h1;obtain⟨G2,b1,b2,b3⟩:=h2;have jA:KU (λ(_:Ix)G(_:World)=>G=([]:List Nat)):=⟨λi G E W W' h _ _=>h,λi G W h=>by rw[h];simp⟩;have h0:NQ (λ(_:Ix)G(_:World)=>G=([]:List Nat)) w0 w0 (λ_=>[]):=⟨λi j k h=>by simp at h,λi k h=>by simp at h,fR,λi=>rfl⟩;obtain⟨P1,N1⟩:=h0.fresh (1,0) jA (T:=qB p (nS cf) 0) (λG E W W'=>qB.off) (λG W=>qB.lt) a1 a2 a3;obtain⟨P2,N2⟩:=N1.fresh (2,0) P1 (T:=rF q (nS cf) 0) (λG E W W'=>rF.off) (λG W=>rF.lt) b1 b2 b3;have h9:NP ⟨λ_=>p,λ_=>q,W2.heap.size,λ_=>d,0⟩ ⟨nS cf,λ_=>AJ 1 1 ⟨#[]⟩ 1⟩ ⟨nS cf,λ_=>AJ 1 1 ⟨#[]⟩ 1⟩ 0 fH (λG _=>G=[]) w0 W2:=by
  refine⟨⟨λG E W W' h _ _=>h,λG W h=>by rw[h];simp⟩,_,N2.up λi G W hq=>?_⟩;unfold fJ;by_cases e2:i=(2,0)
  .subst e2;simpa[iP]using hq
  rw[if_neg e2]at hq;by_cases e1:i=(1,0)
  .subst e1;simpa[iJ]using hq
  rw[if_neg e1]at hq;subst hq;split
  .rfl
  split
  .rename_i e;have:i.2≠0:=λe9=>e1 (Prod.ext e e9);unfold iJ;rw[if_neg this,if_neg (show ¬i.2≤0 by omega)]
  split
  .rename_i e;have:i.2≠0:=λe9=>e2 (Prod.ext e e9);unfold iP;rw[if_neg this,if_neg (show ¬i.2≤0 by omega)]
  split
  .rfl
  rfl
 obtain⟨G,hG,_,f0,h8⟩:=NP.law h9;obtain⟨hs,jM,hpl⟩:=Ov he;have hnil:∀e:TypeId,∀s,(W2.alloc (.cells #[bL,bL,bL,bL,ptr p.xb,ptr q.xb,bL,bL,bL] 47)).ownsRow w0.heap.size e s bL 0 []:=λe s=>eA _ _ _ _;refine⟨_,_,⟨W2.heap.size,ptr p.xb,ptr q.xb,bL,bL,bL,[],[],[],[]⟩,h8 _ (FB ⟨W2.heap.size,ptr p.xb,ptr q.xb,bL,bL,bL,[],[],[],[]⟩) _ GX ⟨fR.alloc _,λk hk=>?_⟩ ⟨⟨di W2 _,hnil _ _,hnil _ _,hnil _ _,by simp,f0.size⟩,rfl⟩,⟨rfl,rfl,rfl,rfl,rfl,rfl,λi hi=>by omega⟩,⟨rfl,rfl,rfl,rfl,rfl⟩,⟨hs,jM,hpl.trans hp,λi=>G5 ⟨by omega,by omega⟩⟩⟩;rcases dH.1 hk with r|⟨u,hu,hk2⟩|⟨u,hu,_⟩
 .exact Or.inr (by rw[r];exact eh _)
 .simp only[ek,fy,or_false]at hu;rcases hu with rfl|rfl|rfl<;>simp[Value.ownBlock]at hk2
 simp at hu
end
theorem Ox:gP ⟨#[51,120,53,32,50,120,50,48]⟩=0:=by decide
theorem Oy:gP ⟨#[50,120,49,48]⟩=0:=by decide
theorem G6:(Tryz.prog.info? 55).map (λi=>(i.zero,i.size,i.bytes))=some (some (.pointer none),1,8):=by kernel_rfl
theorem G9:(Tryz.prog.info? 68).map (λi=>(i.zero,i.size,i.bytes))=some (some (.pointer none),1,8):=by kernel_rfl
theorem He:(Tryz.prog.info? 71).map (λi=>(i.zero,i.size,i.bytes))=some (some (.pointer none),1,8):=by kernel_rfl
def Cg.rO(c:Cg):Cg:=⟨1+pk c.id 999,1+pk c.bl 16,1+pk c.np 3,1+pk c.ev 9,1+pk c.wt 9,10+pk c.cp 90,⟨#[51,120,53,32,50,120,50,48]⟩,1+pk c.la 4⟩
theorem Cg.KV(c:Cg):c.rO.err=0:=by have h1:=eP c.id 999 (by omega);have h2:=eP c.bl 16 (by omega);have h3:=eP c.np 3 (by omega);have h4:=eP c.ev 9 (by omega);have h5:=eP c.wt 9 (by omega);have h6:=eP c.cp 90 (by omega);have h7:=eP c.la 4 (by omega);unfold Cg.err mQ;rw[if_pos (show Cg.own c.rO from by show(_∧_)∧(_∧_)∧_;simp only[Cg.rO];omega),if_pos (show nT c.rO.id c.rO.bl c.rO.la from by simp only[Cg.rO];omega)];exact Ox
def Cg.SY(c:Cg):Prop:=In64 c.id∧In64 c.bl∧In64 c.np∧In64 c.ev∧In64 c.wt∧In64 c.cp∧In64 c.la
theorem Hf(W:World)(a:Addr)(v:Value)(cs:Array Value)(t:TypeId):((W.setCell a v).alloc (.cells cs t)).heap[W.heap.size]?=some (.cells cs t (0,0)):=by have h8:=di (W.setCell a v) (.cells cs t);rw[World.size_setCell]at h8;exact h8
section
variable {w:World}
theorem Hg(c:Cg)(a0 a1 a2:Int)(t:cC)(la:Int)(w:World)(hc:c.SY)(hg:c.gr.size≤2000000)(ht:t.size≤2000000)(ha:In64 a0∧In64 a1∧In64 a2)(hla:In64 la):
 Cl 4 #[.agg c.cs,.agg #[.i a0,.i a1,.i a2],.t t,.i la] w λe w'=>∃L A V m,e=.returned (.tuple #[.p L.nb,.bool true])∧NW L A A 0 fH V w w'∧L.m=m∧eB m 0 A∧mV m 0 V:=by
 obtain⟨wa,nK⟩:=eX (w.alloc (.cells c.cs 23));obtain⟨w1,hw1⟩:=eX (wa.alloc (.cells #[.i a0,.i a1,.i a2] 24));obtain⟨cb,hcb⟩:=eX w.heap.size;obtain⟨ib,hib⟩:=eX wa.heap.size;have f1:Fr [] w w1:=by rw[<-hw1,<-nK];exact(fR.alloc _).alloc _
 have Ta:cb<ib:=by rw[<-hib,<-nK,<-hcb];simp
 have n1:w1.heap[cb]?=some (.cells c.cs 23 (0,0)):=by rw[<-hw1,<-hcb];refine(ei _ _ _ (by rw[<-nK];simp)).trans ?_;rw[<-nK];exact di w _
 have n2:w1.heap[ib]?=some (.cells #[.i a0,.i a1,.i a2] 24 (0,0)):=by rw[<-hw1,<-hib];exact di wa _
 have hcases:c.err=0∨c.err≠0:=by omega
 have Vz:=c.KV;have H9:Hid (∀(d:Cg)W,d.gr.size≤2000000->(d.err=0->(Cl 8 #[.agg d.cs] W λe w'=>∃p:Pl,e=.returned (.tuple #[.p p.xb,.i 0])∧jB (qB p (nS d) 0) W w')∧Cl 9 #[.agg d.cs] W λe w'=>∃p:Pl,e=.returned (.tuple #[.p p.xb,.i 0])∧jB (rF p (nS d) 0) W w')∧(d.err≠0->(Rc 8 #[.agg d.cs] W (.tuple #[.pointer none,.i d.err]) λw'=>Fr [] W w')∧Rc 9 #[.agg d.cs] W (.tuple #[.pointer none,.i d.err]) λw'=>Fr [] W w')):=λd W hd=>⟨λh=>⟨vX d W hd h,uj d W hd h⟩,λh=>⟨um d W hd h,rP d W hd h⟩⟩;obtain⟨cf,hcf⟩:∃cf,(if c.err=0 then c else c.rO)=cf:=⟨_,rfl⟩;have Tc:cf.err=0:=by
  rw[<-hcf];split
  .assumption
  exact Vz
 rcases hcases with he|he
 case' inl=>
  rw[if_pos he]at hcf;subst hcf;obtain⟨id,bl,np,ev,wt,cp,gr,cl⟩:=c;unfold Cg.cs at n1 nK⊢;have hmn:=Cg.ok he;obtain⟨m,hm⟩:∃m:Nat,np=(m:Int):=⟨np.toNat,by have h9:1≤np∧np≤3:=hmn.1.1;omega⟩;subst hm;obtain⟨m1,m3⟩:1≤m∧m≤3:=by have h9:1≤(m:Int)∧(m:Int)≤3:=hmn.1.1;omega
  have q0:w1.cell? (Ad cb 0)=some (.i id):=ce n1 rfl;have q1:w1.cell? (Ad cb 1)=some (.i bl):=ce n1 rfl;have q2:w1.cell? (Ad cb 2)=some (.i m):=ce n1 rfl;have q3:w1.cell? (Ad cb 3)=some (.i ev):=ce n1 rfl;have q4:w1.cell? (Ad cb 4)=some (.i wt):=ce n1 rfl;have q5:w1.cell? (Ad cb 5)=some (.i cp):=ce n1 rfl;have q6:w1.cell? (Ad cb 6)=some (.t gr):=ce n1 rfl;have q7:w1.cell? (Ad cb 7)=some (.i cl):=ce n1 rfl;have H8:Hid (Cl 8 #[.agg #[.i id,.i bl,.i m,.i ev,.i wt,.i cp,.t gr,.i cl]] w1 λe w'=>∃p:Pl,e=.returned (.tuple #[.p p.xb,.i 0])∧jB (qB p (nS ⟨id,bl,m,ev,wt,cp,gr,cl⟩) 0) w1 w'):=((H9.o ⟨id,bl,m,ev,wt,cp,gr,cl⟩ w1 hg).1 he).1;have HR:Hid (∀W,Cl 9 #[.agg #[.i id,.i bl,.i m,.i ev,.i wt,.i cp,.t gr,.i cl]] W λe w'=>∃p:Pl,e=.returned (.tuple #[.p p.xb,.i 0])∧jB (rF p (nS ⟨id,bl,m,ev,wt,cp,gr,cl⟩) 0) W w'):=λW=>((H9.o ⟨id,bl,m,ev,wt,cp,gr,cl⟩ W hg).1 he).2;have HC:Hid (∀W,Fr [] w1 W->(W.cell? (Ad cb 0)=some (.i id)∧W.cell? (Ad cb 1)=some (.i bl))∧W.cell? (Ad cb 2)=some (.i m)∧W.cell? (Ad cb 3)=some (.i ev)∧W.cell? (Ad cb 4)=some (.i wt)∧W.cell? (Ad cb 5)=some (.i cp)∧W.cell? (Ad cb 6)=some (.t gr)∧W.cell? (Ad cb 7)=some (.i cl)):=λW hW=>by have n1:=(hW.block cb (cY.1 n1).1 (by simp)).trans n1;refine⟨⟨?_,?_⟩,?_,?_,?_,?_,?_,?_⟩<;>rw[cell_of n1]<;>rfl
  have Td:=nK;have Dp:=hw1;obtain⟨i5,hi5,Oz,OA,OB⟩:=info_parts G6;obtain⟨i8,Zq,Te,Tf,Tg⟩:=info_parts G9;obtain⟨i7,Zr,Ti,Tj,Tk⟩:=info_parts He;have hbl:1≤bl∧bl≤16:=hmn.2.1.1.2;clear hmn;have HB:Hid (Fr [] w w1∧∀W,Fr [] w1 W->W.cell? (Ad cb 1)=some (.i bl)∧W.cell? (Ad cb 2)=some (.i m)∧∀k:Nat,k<3->∃z,In64 z∧W.cell? (Ad ib k)=some (.i z)∧z=(if k=0 then a0 else if k=1 then a1 else a2)):=⟨f1,λW hW=>⟨(HC.o W hW).1.2,(HC.o W hW).2.1,λk hk=>by
   have n2:=(hW.block ib (cY.1 n2).1 (by simp)).trans n2;rcases(by omega:k=0∨k=1∨k=2)with e|e|e<;>subst e
   .exact⟨a0,ha.1,ce n2 rfl,rfl⟩
   .exact⟨a1,ha.2.1,ce n2 rfl,rfl⟩
   exact⟨a2,ha.2.2,ce n2 rfl,rfl⟩⟩⟩
  have VA:Hid (In64 la∧t.size≤2000000∧Cg.err ⟨id,bl,m,ev,wt,cp,gr,cl⟩=0):=⟨hla,ht,he⟩;clear hc hg ht ha hla H9 Vz nK hw1 he Tc n1 n2 f1;go_enter Tryz.func4,Tryz.ntmps4;go_wp2_with (first
   |(go_at_call 9;refine(HR.o _).mono ?_;rintro e w3 ⟨q,rfl,s3⟩;have H3:Hid (jB (rF q (nS ⟨id,bl,m,ev,wt,cp,gr,cl⟩) 0) w2 w3):=s3;clear s3)
   |(go_at_call 8;refine H8.o.mono ?_;rintro e w2 ⟨p,rfl,s2⟩;have H2:Hid (jB (qB p (nS ⟨id,bl,m,ev,wt,cp,gr,cl⟩) 0) w1 w2):=s2;(have Zt:Fr [] w1 w2:=by obtain⟨_,_,_,f⟩:=s2;exact f);obtain⟨⟨p0,p1⟩,p2,p3,p4,p5,p6,p7⟩:=HC.o w2 Zt;clear s2 Zt))
  obtain⟨nb,hnb⟩:=eX w3.heap.size;obtain⟨W4,iI⟩:=eX (w3.alloc (.cells #[bL,bL,bL,bL,.p p.xb,.p q.xb,bL,bL,bL] 47));have JR:Hid (MS w1 nb m 0 0 0 0 0 p q W4.heap.size W4):=by rw[<-hnb,<-iI];exact MS.begin VA.o.2.2 H2.o H3.o (by simp) _
  rw[iI,hnb];have Fw:Hid (In64 la∧t.size≤2000000):=⟨VA.o.1,VA.o.2.1⟩;clear iI hnb H2 H3 H8 HR HC VA p0 p1 p2 p3 p4 p5 p6 p7 q0 q1 q2 q3 q4 q5 q6 q7;obtain⟨wB,bz,kX,HB,JR,hbz,hnp⟩:∃(wB:World)(bz:Int)(kX:Nat),Hid (Fr [] w wB∧∀W,Fr [] wB W->W.cell? (Ad cb 1)=some (.i bz)∧W.cell? (Ad cb 2)=some (.i kX)∧∀k:Nat,k<3->∃z,In64 z∧W.cell? (Ad ib k)=some (.i z)∧z=(if k=0 then a0 else if k=1 then a1 else a2))∧Hid (MS wB nb kX 0 0 0 0 0 p q W4.heap.size W4)∧(1≤bz∧bz≤16)∧1≤kX∧kX≤3:=⟨w1,bl,m,HB,JR,hbl,m1,m3⟩
 case' inr=>
  rw[if_neg he]at hcf;subst hcf;have Hl:c.rO.err=0:=Vz;have hbg:c.rO.gr.size≤2000000:=by show(8:Nat)≤_;omega
  obtain⟨c1,c2,c3,c4,c5,c6,c7⟩:=hc;have t1:=eP c.id 999 (by omega);have t2:=eP c.bl 16 (by omega);have t3:=eP c.np 3 (by omega);have t4:=eP c.ev 9 (by omega);have t5:=eP c.wt 9 (by omega);have t6:=eP c.cp 90 (by omega);have t7:=eP c.la 4 (by omega);obtain⟨b,hb⟩:=eX c.rO;have hbd:b=⟨1+pk c.id 999,1+pk c.bl 16,1+pk c.np 3,1+pk c.ev 9,1+pk c.wt 9,10+pk c.cp 90,⟨#[51,120,53,32,50,120,50,48]⟩,1+pk c.la 4⟩:=hb.symm;rw[hb]at Hl hbg;have WX:Hid (∀W,Cl 8 #[.agg b.cs] W λe w'=>∃p:Pl,e=.returned (.tuple #[.p p.xb,.i 0])∧jB (qB p (nS b) 0) W w'):=λW=>((H9.o b W hbg).1 Hl).1;have HR2:Hid (∀W,Cl 9 #[.agg b.cs] W λe w'=>∃p:Pl,e=.returned (.tuple #[.p p.xb,.i 0])∧jB (rF p (nS b) 0) W w'):=λW=>((H9.o b W hbg).1 Hl).2;have H8:Hid (Rc 8 #[.agg c.cs] w1 (.tuple #[.pointer none,.i c.err]) λw'=>Fr [] w1 w'):=((H9.o c w1 hg).2 he).1;have HR:Hid (∀W,Rc 9 #[.agg c.cs] W (.tuple #[.pointer none,.i c.err]) λw'=>Fr [] W w'):=λW=>((H9.o c W hg).2 he).2;obtain⟨en,hen⟩:=eX c.err;rw[hen]at H8 HR;obtain⟨id,bl,np,ev,wt,cp,gr,cl⟩:=c;simp only at c1 c2 c3 c4 c5 c6 c7 t1 t2 t3 t4 t5 t6 t7 hbd;obtain⟨s1,hs1⟩:=eX (pk id 999);obtain⟨s2,hs2⟩:=eX (pk bl 16);obtain⟨s3,hs3⟩:=eX (pk np 3);obtain⟨s4,hs4⟩:=eX (pk ev 9);obtain⟨s5,hs5⟩:=eX (pk wt 9);obtain⟨s6,hs6⟩:=eX (pk cp 90);obtain⟨s7,hs7⟩:=eX (pk cl 4);have P1:Hid (∀W,Rc 10 #[.i id,.i 999] W (.i s1) λw'=>w'=W):=λW=>by rw[<-hs1];exact dh id 999 W c1 (by omega) (by omega)
  have P2:Hid (∀W,Rc 10 #[.i bl,.i 16] W (.i s2) λw'=>w'=W):=λW=>by rw[<-hs2];exact dh bl 16 W c2 (by omega) (by omega)
  have P3:Hid (∀W,Rc 10 #[.i np,.i 3] W (.i s3) λw'=>w'=W):=λW=>by rw[<-hs3];exact dh np 3 W c3 (by omega) (by omega)
  have P4:Hid (∀W,Rc 10 #[.i ev,.i 9] W (.i s4) λw'=>w'=W):=λW=>by rw[<-hs4];exact dh ev 9 W c4 (by omega) (by omega)
  have P5:Hid (∀W,Rc 10 #[.i wt,.i 9] W (.i s5) λw'=>w'=W):=λW=>by rw[<-hs5];exact dh wt 9 W c5 (by omega) (by omega)
  have P6:Hid (∀W,Rc 10 #[.i cp,.i 90] W (.i s6) λw'=>w'=W):=λW=>by rw[<-hs6];exact dh cp 90 W c6 (by omega) (by omega)
  have P7:Hid (∀W,Rc 10 #[.i cl,.i 4] W (.i s7) λw'=>w'=W):=λW=>by rw[<-hs7];exact dh cl 4 W c7 (by omega) (by omega)
  rw[hs1]at t1;rw[hs2]at t2;rw[hs3]at t3;rw[hs4]at t4;rw[hs5]at t5;rw[hs6]at t6;rw[hs7]at t7;rw[hs1,hs2,hs3,hs4,hs5,hs6,hs7]at hbd;have v1:IntKind.i64.wrap (1+s1)=1+s1:=aD ⟨by omega,by omega⟩;have v2:IntKind.i64.wrap (1+s2)=1+s2:=aD ⟨by omega,by omega⟩;have v3:IntKind.i64.wrap (1+s3)=1+s3:=aD ⟨by omega,by omega⟩;have v4:IntKind.i64.wrap (1+s4)=1+s4:=aD ⟨by omega,by omega⟩;have v5:IntKind.i64.wrap (1+s5)=1+s5:=aD ⟨by omega,by omega⟩;have v6:IntKind.i64.wrap (10+s6)=10+s6:=aD ⟨by omega,by omega⟩;have v7:IntKind.i64.wrap (1+s7)=1+s7:=aD ⟨by omega,by omega⟩;subst hbd;unfold Cg.cs at n1 nK H8 HR WX HR2⊢;have HC:Hid (∀W,Fr [] w1 W->(W.cell? (Ad cb 0)=some (.i id)∧W.cell? (Ad cb 1)=some (.i bl))∧W.cell? (Ad cb 2)=some (.i np)∧W.cell? (Ad cb 3)=some (.i ev)∧W.cell? (Ad cb 4)=some (.i wt)∧W.cell? (Ad cb 5)=some (.i cp)∧W.cell? (Ad cb 6)=some (.t gr)∧W.cell? (Ad cb 7)=some (.i cl)):=λW hW=>by have n1:=(hW.block cb (cY.1 n1).1 (by simp)).trans n1;refine⟨⟨?_,?_⟩,?_,?_,?_,?_,?_,?_⟩<;>rw[cell_of n1]<;>rfl
  obtain⟨⟨q0,q1⟩,q2,q3,q4,q5,q6,q7⟩:=HC.o w1 fR;have HN:Hid ((w1.heap[cb]?=some (.cells #[.i id,.i bl,.i np,.i ev,.i wt,.i cp,.t gr,.i cl] 23 (0,0))∧w1.heap[ib]?=some (.cells #[.i a0,.i a1,.i a2] 24 (0,0)))∧cb<ib∧Fr [] w w1∧In64 a0∧In64 a1∧In64 a2):=⟨⟨n1,n2⟩,Ta,f1,ha⟩;have Fw:Hid (In64 la∧t.size≤2000000):=⟨hla,ht⟩;have HT:Hid ((0≤s2∧s2<16)∧0≤s3∧s3<3):=⟨t2,t3⟩;have Zu:Hid (Cg.err ⟨1+s1,1+s2,1+s3,1+s4,1+s5,10+s6,⟨#[51,120,53,32,50,120,50,48]⟩,1+s7⟩=0):=Hl;have Td:=nK;have Dp:=hw1;clear hg ht ha hla H9 Vz nK hw1 he Tc n1 n2 f1 Hl hbg hb c1 c2 c3 c4 c5 c6 c7 t1 t2 t3 t4 t5 t6 t7 hs1 hs2 hs3 hs4 hs5 hs6 hs7 hen Ta;go_enter Tryz.func4,Tryz.ntmps4;go_wp2_with (first
   |(go_at_call 9;refine(HR.o _).mono ?_;rintro e w3 ⟨rfl,f3⟩;have H3:Hid (Fr [] w1 w3):=H2.o.trans f3 (by simp);obtain⟨⟨r0,r1⟩,r2,r3,r4,r5,r6,r7⟩:=HC.o w3 H3.o;clear f3)
   |(go_at_call 8;refine H8.o.mono ?_;rintro e w2 ⟨rfl,f2⟩;have H2:Hid (Fr [] w1 w2):=f2;obtain⟨⟨p0,p1⟩,p2,p3,p4,p5,p6,p7⟩:=HC.o w2 f2;clear f2))
  refine wp_region_still_tail 29 (by kernel_rfl) (by kernel_rfl) ?_;obtain⟨w4,hw4⟩:∃w4:World,{w3 with drawn:=w3.drawn+1}=w4:=⟨_,rfl⟩;have H4:Hid (Fr [] w1 w4):=by rw[<-hw4];exact H3.o.drew
  obtain⟨⟨u0,u1⟩,u2,u3,u4,u5,u6,u7⟩:=HC.o w4 H4.o;have z3:∀i,w4.frozen? (Ad cb i)=false:=λi=>ay ((H4.o.block cb (cY.1 HN.o.1.1).1 (by simp)).trans HN.o.1.1) i;have z0:=z3 0;have z1:=z3 1;have z2:=z3 2;have z4:=z3 4;have z5:=z3 5;have z6:=z3 6;have z7:=z3 7;have z33:=z3 3;rw[hw4];clear hw4 z3 r0 r1 r2 r3 r4 r5 r6 r7 H3 H2 H8 HR p0 p1 p2 p3 p4 p5 p6 p7 q0 q1 q2 q3 q4 q5 q6 q7;simp only[List.take_succ_cons,List.take_zero,List.drop_succ_cons,List.drop_zero]
  still_step
  still_step
  still_call (P1.o _)
  still_step
  still_step
  still_step
  still_call (P2.o _)
  still_step
  still_step
  still_step
  still_call (P3.o _)
  still_step
  still_step
  still_step
  still_call (P4.o _)
  still_step
  still_step
  still_step
  still_call (P5.o _)
  still_step
  still_step
  still_step
  still_call (P6.o _)
  still_step
  still_step
  still_step
  still_call (P7.o _)
  still_step
  still_step
  refine wpStill_nil ?_;have HX:Hid ((((((((((w4.setCell (Ad cb 0) (.i (1+s1))).setCell (Ad cb 1) (.i (1+s2))).setCell (Ad cb 2) (.i (1+s3))).setCell (Ad cb 3) (.i (1+s4))).setCell (Ad cb 4) (.i (1+s5))).setCell (Ad cb 5) (.i (10+s6))).setCell (Ad cb 6) (.t ⟨#[51,120,53,32,50,120,50,48]⟩)).setCell (Ad cb 7) (.i (1+s7))).heap[cb]?=some (.cells #[.i (1+s1),.i (1+s2),.i (1+s3),.i (1+s4),.i (1+s5),.i (10+s6),.t ⟨#[51,120,53,32,50,120,50,48]⟩,.i (1+s7)] 23 (0,0))∧((((((((w4.setCell (Ad cb 0) (.i (1+s1))).setCell (Ad cb 1) (.i (1+s2))).setCell (Ad cb 2) (.i (1+s3))).setCell (Ad cb 3) (.i (1+s4))).setCell (Ad cb 4) (.i (1+s5))).setCell (Ad cb 5) (.i (10+s6))).setCell (Ad cb 6) (.t ⟨#[51,120,53,32,50,120,50,48]⟩)).setCell (Ad cb 7) (.i (1+s7))).heap[ib]?=some (.cells #[.i a0,.i a1,.i a2] 24 (0,0)))∧Fr [] w ((((((((w4.setCell (Ad cb 0) (.i (1+s1))).setCell (Ad cb 1) (.i (1+s2))).setCell (Ad cb 2) (.i (1+s3))).setCell (Ad cb 3) (.i (1+s4))).setCell (Ad cb 4) (.i (1+s5))).setCell (Ad cb 5) (.i (10+s6))).setCell (Ad cb 6) (.t ⟨#[51,120,53,32,50,120,50,48]⟩)).setCell (Ad cb 7) (.i (1+s7)))):=by
   have b0:=(H4.o.block cb (cY.1 HN.o.1.1).1 (by simp)).trans HN.o.1.1;have b1:=(H4.o.block ib (cY.1 HN.o.1.2).1 (by simp)).trans HN.o.1.2;have f4:Fr [] w w4:=HN.o.2.2.1.trans H4.o (by simp);have hge:w.heap.size≤cb:=by omega
   have f9:Fr [cb] w4 ((((((((w4.setCell (Ad cb 0) (.i (1+s1))).setCell (Ad cb 1) (.i (1+s2))).setCell (Ad cb 2) (.i (1+s3))).setCell (Ad cb 3) (.i (1+s4))).setCell (Ad cb 4) (.i (1+s5))).setCell (Ad cb 5) (.i (10+s6))).setCell (Ad cb 6) (.t ⟨#[51,120,53,32,50,120,50,48]⟩)).setCell (Ad cb 7) (.i (1+s7))):=(((((((fR.setCell _ (Or.inl (by simp))).setCell _ (Or.inl (by simp))).setCell _ (Or.inl (by simp))).setCell _ (Or.inl (by simp))).setCell _ (Or.inl (by simp))).setCell _ (Or.inl (by simp))).setCell _ (Or.inl (by simp))).setCell _ (Or.inl (by simp));refine⟨⟨?_,(f9.block ib (cY.1 b1).1 (by have:=HN.o.2.1;simp;omega)).trans b1⟩,(((((((f4.setCell _ (Or.inr hge)).setCell _ (Or.inr hge)).setCell _ (Or.inr hge)).setCell _ (Or.inr hge)).setCell _ (Or.inr hge)).setCell _ (Or.inr hge)).setCell _ (Or.inr hge)).setCell _ (Or.inr hge)⟩;have d1:=dy _ _ 0 _ _ (.i (1+s1)) b0;have d2:=dy _ _ 1 _ _ (.i (1+s2)) d1;have d3:=dy _ _ 2 _ _ (.i (1+s3)) d2;have d4:=dy _ _ 3 _ _ (.i (1+s4)) d3;have d5:=dy _ _ 4 _ _ (.i (1+s5)) d4;have d6:=dy _ _ 5 _ _ (.i (10+s6)) d5;have d7:=dy _ _ 6 _ _ (.t ⟨#[51,120,53,32,50,120,50,48]⟩) d6;have d8:=dy _ _ 7 _ _ (.i (1+s7)) d7;exact d8
  have WY:Hid (∀X W,X.heap[cb]?=some (.cells #[.i (1+s1),.i (1+s2),.i (1+s3),.i (1+s4),.i (1+s5),.i (10+s6),.t ⟨#[51,120,53,32,50,120,50,48]⟩,.i (1+s7)] 23 (0,0))->Fr [] X W->(W.cell? (Ad cb 0)=some (.i (1+s1))∧W.cell? (Ad cb 1)=some (.i (1+s2)))∧W.cell? (Ad cb 2)=some (.i (1+s3))∧W.cell? (Ad cb 3)=some (.i (1+s4))∧W.cell? (Ad cb 4)=some (.i (1+s5))∧W.cell? (Ad cb 5)=some (.i (10+s6))∧W.cell? (Ad cb 6)=some (.t ⟨#[51,120,53,32,50,120,50,48]⟩)∧W.cell? (Ad cb 7)=some (.i (1+s7))):=λX W n1 hW=>by have n1:=(hW.block cb (cY.1 n1).1 (by simp)).trans n1;refine⟨⟨?_,?_⟩,?_,?_,?_,?_,?_,?_⟩<;>rw[cell_of n1]<;>rfl
  have Zv:Hid (∀p w5,(∃X,((X.heap[cb]?=some (.cells #[.i (1+s1),.i (1+s2),.i (1+s3),.i (1+s4),.i (1+s5),.i (10+s6),.t ⟨#[51,120,53,32,50,120,50,48]⟩,.i (1+s7)] 23 (0,0))∧X.heap[ib]?=some (.cells #[.i a0,.i a1,.i a2] 24 (0,0)))∧Fr [] w X)∧jB (qB p (nS ⟨1+s1,1+s2,1+s3,1+s4,1+s5,10+s6,⟨#[51,120,53,32,50,120,50,48]⟩,1+s7⟩) 0) X w5)->(w5.cell? (Ad cb 0)=some (.i (1+s1))∧w5.cell? (Ad cb 1)=some (.i (1+s2)))∧w5.cell? (Ad cb 2)=some (.i (1+s3))∧w5.cell? (Ad cb 3)=some (.i (1+s4))∧w5.cell? (Ad cb 4)=some (.i (1+s5))∧w5.cell? (Ad cb 5)=some (.i (10+s6))∧w5.cell? (Ad cb 6)=some (.t ⟨#[51,120,53,32,50,120,50,48]⟩)∧w5.cell? (Ad cb 7)=some (.i (1+s7))):=λp w5⟨X,h1,G,_,_,f⟩=>WY.o X w5 h1.1.1 f;clear HC;go_wp2_with (first
   |(have g:=H5;clear g;go_at_call 9;refine(HR2.o _).mono ?_;rintro e w6 ⟨q,rfl,y6⟩;have H6:Hid (jB (rF q (nS ⟨1+s1,1+s2,1+s3,1+s4,1+s5,10+s6,⟨#[51,120,53,32,50,120,50,48]⟩,1+s7⟩) 0) w5 w6):=y6;clear y6)
   |(go_at_call 8;refine(WX.o _).mono ?_;rintro e w5 ⟨p,rfl,y5⟩;have H5:Hid (∃X,((X.heap[cb]?=some (.cells #[.i (1+s1),.i (1+s2),.i (1+s3),.i (1+s4),.i (1+s5),.i (10+s6),.t ⟨#[51,120,53,32,50,120,50,48]⟩,.i (1+s7)] 23 (0,0))∧X.heap[ib]?=some (.cells #[.i a0,.i a1,.i a2] 24 (0,0)))∧Fr [] w X)∧jB (qB p (nS ⟨1+s1,1+s2,1+s3,1+s4,1+s5,10+s6,⟨#[51,120,53,32,50,120,50,48]⟩,1+s7⟩) 0) X w5):=⟨_,HX.o,y5⟩;obtain⟨⟨p0,p1⟩,p2,p3,p4,p5,p6,p7⟩:=Zv.o p w5 H5.o;clear y5))
  obtain⟨nb,hnb⟩:=eX w6.heap.size;obtain⟨W4,iI⟩:=eX (w6.alloc (.cells #[bL,bL,bL,bL,.p p.xb,.p q.xb,bL,bL,bL] 47));rw[iI,hnb];obtain⟨X,⟨⟨Zw,WZ⟩,fX⟩,y5⟩:=H5.o;obtain⟨kX,hnp'⟩:∃kX:Nat,1+s3=(kX:Int):=⟨(1+s3).toNat,by have:=HT.o.2;omega⟩;have Kt:Hid (MS X nb kX 0 0 0 0 0 p q W4.heap.size W4):=by rw[<-hnb,<-iI];exact MS.begin Zu.o y5 H6.o (by show(1+s3).toNat=kX;omega) _
  obtain⟨wB,bz,kX,HB,JR,hbz,hnp⟩:∃(wB:World)(bz:Int)(kX:Nat),Hid (Fr [] w wB∧∀W,Fr [] wB W->W.cell? (Ad cb 1)=some (.i bz)∧W.cell? (Ad cb 2)=some (.i kX)∧∀k:Nat,k<3->∃z,In64 z∧W.cell? (Ad ib k)=some (.i z)∧z=(if k=0 then a0 else if k=1 then a1 else a2))∧Hid (MS wB nb kX 0 0 0 0 0 p q W4.heap.size W4)∧(1≤bz∧bz≤16)∧1≤kX∧kX≤3:=by
   have h2:=HT.o;refine⟨X,1+s2,kX,⟨fX,λW hW=>?_⟩,Kt,by omega,by omega⟩;have hcx:=WY.o X W Zw hW;rw[<-hnp'];refine⟨hcx.1.2,hcx.2.1,λk hk=>?_⟩;have n2:=(hW.block ib (cY.1 WZ).1 (by simp)).trans WZ;have ha:=HN.o.2.2.2;rcases(by omega:k=0∨k=1∨k=2)with e|e|e<;>subst e
   .exact⟨a0,ha.1,ce n2 rfl,rfl⟩
   .exact⟨a1,ha.2.1,ce n2 rfl,rfl⟩
   exact⟨a2,ha.2.2,ce n2 rfl,rfl⟩
  obtain⟨i5,hi5,Oz,OA,OB⟩:=info_parts G6;obtain⟨i8,Zq,Te,Tf,Tg⟩:=info_parts G9;obtain⟨i7,Zr,Ti,Tj,Tk⟩:=info_parts He;clear iI hnb H5 H6 WX HR2 Zv WY HX HN HT Zu P1 P2 P3 P4 P5 P6 P7 p0 p1 p2 p3 p4 p5 p6 p7 u0 u1 u2 u3 u4 u5 u6 u7 z0 z1 z2 z4 z5 z6 z7 z33 Zw WZ fX y5 hnp' H4 v1 v2 v3 v4 v5 v6 v7
 all_goals
  obtain⟨k0,k1⟩:=JR.o.cells;unfold ptr at k0 k1;obtain⟨d0,hd0⟩:=eX W4.heap.size;have VB:Hid (∀W,Fr [] W4 W->Rc 11 #[.p p.xb] W (.p p.b) λw'=>w'=W):=λW hW=>GK (hW.gb.cell k0 (by simp));have Ho:Hid (MS wB nb kX 0 0 0 0 1 p q d0 (W4.alloc (.cells #[.p p.b,.p q.b,bL] 54)).drew):=by rw[<-hd0];exact JR.o.side.same fR.drew
  clear JR;go_region_held3 (λw'=>w'.cell? ⟨p.xb,0,none⟩=some (.pointer (some ⟨p.b,0,none⟩))∧w'.cell? ⟨q.xb,0,none⟩=some (.pointer (some ⟨q.b,0,none⟩)))
   (first
     |exact⟨k0,k1⟩
     |go_keep)
   (first
     |(go_at_call 11;refine(VB.o _ (by first|exact fR|exact fR.drew|exact fR.drewN _)).mono ?_;rintro e w' ⟨rfl,hw'⟩;have hw'':=hw'.symm;subst hw''))
  obtain⟨W5,kJ⟩:=eX (W4.alloc (.cells #[.p p.b,.p q.b,bL] 54)).drew;have y0:W5.cell? (Ad d0 0)=some (.p p.b):=by rw[<-kJ,<-hd0];exact cell_of (di W4 _) (j:=0)
  rw[kJ]at Ho;rw[kJ];clear kJ hd0 k0 k1 VB;obtain⟨ga,gc,gs,x0,hown,Hq,hpush⟩:=MS.p0 W5 Ho.o;have HO:Hid (W5.ownsRow wB.heap.size 55 1 (.slice ga 0 gc) 0 gs∧wB.heap.size≤W5.heap.size):=⟨hown,Hq⟩;obtain⟨BB,qA⟩:=eX wB.heap.size;have HBB:Hid (wB.heap.size=BB):=qA;have Zx:Hid (∀v9 w9,(W5.alloc (.cells #[.p d0] 55)).grownBy w9 (Value.slice ga 0 gc).ownBlock->w9.ownsRow BB 55 1 v9 (0+1) (gs++[.p d0])->(v9.ownBlock=(Value.slice ga 0 gc).ownBlock∨v9.ownBlock=some (W5.alloc (.cells #[.p d0] 55)).heap.size)->(w9.cell? (Ad nb 0)=some (.slice ga 0 gc)∧w9.frozen? (Ad nb 0)=false)∧MS wB nb kX 0 0 0 (0+1) 1 p q d0 (w9.setCell (Ad nb 0) v9)):=by rw[<-qA];exact hpush
  rw[qA]at HO;clear hown Hq hpush qA;go_wp2_with (at_builtin;refine wpList_append_own_at _ rfl _ _ 33 rfl BB 55 i5 _ 1 8 Tryz.underlying33 hi5 Oz OA OB rfl (by omega) (.slice ga 0 gc) 0 gs rfl (HO.o.1.alloc _) (Ad W5.heap.size 0) 1 1 [.p d0] rfl rfl (World.news_of_block (cs:=#[.p d0]) (t:=55) (fr:=(0,0)) (di W5 _)) (by simp[Value.oneCell']) (by unfold maxLen;omega) (by omega) (by have:=HO.o.2;simp;omega) ?_;intro v9 w9 aH aJ _ iL;obtain⟨iM,iN,ni⟩:=ah aH;subst ni;obtain⟨⟨c9,z9⟩,S9⟩:=Zx.o _ w9 aJ aH iL;have H9:Hid (MS wB nb kX 0 0 0 (0+1) 1 p q d0 (w9.setCell (Ad nb 0) (.slice iM (0+1) iN))):=S9;clear aH aJ iL S9);obtain⟨S,hS⟩:∃S:Nat->World->Prop,S=λk W=>∃p q d,MS wB nb kX k k k (k+1) (k+1) p q d W:=⟨_,rfl⟩;have vY:Hid (S=λk W=>∃p q d,MS wB nb kX k k k (k+1) (k+1) p q d W):=hS;have HS2:Hid (S 0 (w9.setCell (Ad nb 0) (.slice iM (0+1) iN))):=by rw[hS];exact⟨p,q,d0,H9.o⟩
  clear hS H9 Zx HO Ho x0 c9 z9;go_loopw [16] (λi wr=>∃k:Nat,k≤kX∧i=.i k∧Hid (S k wr)) (λi _=>kX-(intOf i).toNat)
  case atStart=>exact⟨0,dC _,rfl,HS2⟩
  obtain⟨k,hk,rfl,HK⟩:=hrel;obtain⟨W6,lI⟩:=eY wr;subst lI;have VD:Hid (∀k W,S k W->Fr [] wB W):=by rw[vY.o];rintro k W ⟨p,q,d,h⟩;exact h.fr
  obtain⟨e1,e2,OC⟩:=HB.o.2 W6 (VD.o _ _ HK.o);clear HS2;by_cases hlt:k<kX
  .have hltz:(k:Int)<(kX:Int):=by omega
   obtain⟨z,Tm,e3,hzd⟩:=OC k (by omega);have OD:Hid (∀W,Fr [] wB W->W.cell? (Ad ib k)=some (.i z)∧W.cell? (Ad cb 1)=some (.i bz)):=λW hW=>by obtain⟨c1,_,c3⟩:=HB.o.2 W hW;obtain⟨z',_,c4,c5⟩:=c3 k (by omega);rw[hzd,<-c5];exact⟨c4,c1⟩
   obtain⟨U,hU⟩:∃U:Rp->Pl->World->Prop,U=λx p' W=>∃W0,S k W0∧jB (AB p' x 0) W0 W:=⟨_,rfl⟩;obtain⟨T,hT⟩:∃T:Pl->Pl->World->Prop,T=λp' q' W=>∀d',MS wB nb kX (k+1) k k (k+1) (k+1) p' q' d' W:=⟨_,rfl⟩;have yH:Hid (∀k W W',S k W->Fr [] W W'->S k W'):=by rw[vY.o];rintro k W W' ⟨p,q,d,h⟩ f;exact⟨p,q,d,h.same f⟩
   have Tn:Hid (∀x p' W W',U x p' W->Fr [] W W'->U x p' W'):=by rw[hU];rintro x p' W W' ⟨W0,h1,G,h2,h3,h4⟩ f;exact⟨W0,h1,G,h2.off f (by simp),h3,h4.trans f (by simp)⟩
   have Xa:Hid (∀x p' W,U x p' W->Fr [] wB W):=by rw[hU];rintro x p' W ⟨W0,h1,G,h2,h3,h4⟩;exact(VD.o _ _ h1).trans h4 (by simp)
   have HTF:Hid (∀p' q' W W',T p' q' W->Fr [] W W'->T p' q' W'):=by
    rw[hT]
    exactλp' q' W W' h f d=>(h d).same f
   have KW:Hid (∀p' q' W,T p' q' W->(Fr [] wB W∧W.cell? (Ad p'.xb 0)=some (.p p'.b)∧W.cell? (Ad q'.xb 0)=some (.p q'.b))∧MS wB nb kX (k+1) k k (k+1) (k+2) p' q' W.heap.size (W.alloc (.cells #[.p p'.b,.p q'.b,bL] 54)).drew):=by
    rw[hT]
    exactλp' q' W h=>⟨⟨(h 0).fr,(h 0).cells⟩,(h _).side.same fR.drew⟩
   have Cm:Hid (∀id' la' tx,tx.size≤2000000->mQ id' bz la' tx=0->(∀W,S k W->Cl 12 #[.i id',.i bz,.t tx,.i la'] W λe w'=>∃p':Pl,e=.returned (.tuple #[.p p'.xb,.i 0])∧U (AJ id' bz.toNat tx la') p' w')∧∀p' W,U (AJ id' bz.toNat tx la') p' W->Cl 13 #[.i id',.i bz,.t tx,.i la'] W λe w'=>∃q':Pl,e=.returned (.tuple #[.p q'.xb,.i 0])∧T p' q' w'):=by
    rw[hU,hT]
    refineλid' la' tx h1 h2=>⟨λW hW=>?_,λp' W hW=>?_⟩
    .refine(nU id' bz tx la' W h1).mono ?_;rintro e w' (⟨h3,_⟩|⟨_,_,p',he,h4⟩)
     .exact absurd h2 h3
     exact⟨p',he,W,hW,h4⟩
    refine(nV id' bz tx la' W h1).mono ?_;rintro e w' (⟨h3,_⟩|⟨_,h5,q',he,h4⟩)
    .exact absurd h2 h3
    obtain⟨W0,h6,h7⟩:=hW;rw[vY.o]at h6;obtain⟨p,q,d,h8⟩:=h6;exact⟨q',he,λd'=>h8.new h7 h4 (G5 h5.2) d'⟩
   have HE:Hid (mQ z bz la t≠0->∀W,S k W->(Rc 12 #[.i z,.i bz,.t t,.i la] W (.tuple #[.pointer none,.i (mQ z bz la t)]) λw'=>S k w')∧Rc 13 #[.i z,.i bz,.t t,.i la] W (.tuple #[.pointer none,.i (mQ z bz la t)]) λw'=>S k w'):=λh1 W hW=>by
    constructor
    .refine(nU z bz t la W Fw.o.2).mono ?_;rintro e w' (⟨_,he,f⟩|⟨h3,_⟩)
     .exact⟨he,yH.o _ _ _ hW f⟩
     exact absurd h3 h1
    refine(nV z bz t la W Fw.o.2).mono ?_;rintro e w' (⟨_,he,f⟩|⟨h3,_⟩)
    .exact⟨he,yH.o _ _ _ hW f⟩
    exact absurd h3 h1
   have HUT:Hid (T=λp' q' W=>∀d',MS wB nb kX (k+1) k k (k+1) (k+1) p' q' d' W):=hT;have k3:(k:Int)<3:=by omega
   have k0:(0:Int)≤(k:Int):=by omega
   have hE:mQ z bz la t=0∨mQ z bz la t≠0:=by omega
   have HZ:Hid (In64 z):=Tm;clear hU hT OC hzd Tm;rcases hE with hE|hE
   case' inl=>
    have Tp:Hid (∀W,S k W->Cl 12 #[.i z,.i bz,.t t,.i la] W λe w'=>∃p':Pl,e=.returned (.tuple #[.p p'.xb,.i 0])∧U (AJ z bz.toNat t la) p' w'):=(Cm.o z la t Fw.o.2 hE).1;have Tq:Hid (∀p' W,U (AJ z bz.toNat t la) p' W->Cl 13 #[.i z,.i bz,.t t,.i la] W λe w'=>∃q':Pl,e=.returned (.tuple #[.p q'.xb,.i 0])∧T p' q' w'):=(Cm.o z la t Fw.o.2 hE).2;clear Cm HE hE;go_wp2;go_region_held3 (λw'=>w'.cell? ⟨ib,k,none⟩=some (.int .i64 z)∧w'.cell? ⟨cb,1,none⟩=some (.int .i64 bz))
     (first
       |exact⟨j1,j2⟩
       |exact⟨e3,e1⟩
       |go_keep)
     (first
       |(go_at_call 12;refine(Tp.o _ (by first|exact HK.o|exact yH.o _ _ _ HK.o fR.drew|exact yH.o _ _ _ HK.o (fR.drewN _))).mono ?_;rintro e w7 ⟨p',rfl,u7⟩;have H7:Hid (U (AJ z bz.toNat t la) p' w7):=u7;obtain⟨j1,j2⟩:=OD.o w7 (Xa.o _ _ _ u7);clear u7))
    all_goals
     go_wp2;go_region_held3 (λw'=>w'.cell? ⟨ib,k,none⟩=some (.int .i64 z)∧w'.cell? ⟨cb,1,none⟩=some (.int .i64 bz))
      (first
        |exact⟨l1,l2⟩
        |exact⟨j1,j2⟩
        |go_keep)
      (first
        |(go_at_call 13;refine(Tq.o p' _ (by first|exact H7.o|exact Tn.o _ _ _ _ H7.o fR.drew|exact Tn.o _ _ _ _ H7.o (fR.drewN _))).mono ?_;rintro e w8 ⟨q',rfl,u8⟩;have H8:Hid (T p' q' w8):=u8;obtain⟨l1,l2⟩:=OD.o w8 (KW.o _ _ _ u8).1.1;clear u8))
     all_goals
      go_wp2;clear j1 j2 l1 l2 H7 Tp Tq
   case' inr=>
    obtain⟨en,hen⟩:=eX (mQ z bz la t);have Tp:Hid (∀W,S k W->(Rc 12 #[.i z,.i bz,.t t,.i la] W (.tuple #[.pointer none,.i en]) λw'=>S k w')):=λW hW=>by rw[<-hen];exact(HE.o hE W hW).1
    have Tq:Hid (∀W,S k W->(Rc 13 #[.i z,.i bz,.t t,.i la] W (.tuple #[.pointer none,.i en]) λw'=>S k w')):=λW hW=>by rw[<-hen];exact(HE.o hE W hW).2
    have hp1:=eP z 999 (by omega);have hp2:=eP la 5 (by omega);obtain⟨s1,hs1⟩:=eX (pk z 999);obtain⟨s2,hs2⟩:=eX (pk la 5);have Oa:Hid (∀W,Rc 10 #[.i z,.i 999] W (.i s1) λw'=>w'=W):=λW=>by rw[<-hs1];exact dh z 999 W HZ.o (by omega) (by omega)
    have Xb:Hid (∀W,Rc 10 #[.i la,.i 5] W (.i s2) λw'=>w'=W):=λW=>by rw[<-hs2];exact dh la 5 W Fw.o.1 (by omega) (by omega)
    have OE:=Oa;have OG:=Oa;rw[hs1]at hp1;rw[hs2]at hp2;have hw1:IntKind.i64.wrap (1+s1)=1+s1:=aD ⟨by omega,by omega⟩;have hw2:IntKind.i64.wrap (1+s2)=1+s2:=aD ⟨by omega,by omega⟩;have hE2:mQ (1+s1) bz (1+s2) ⟨#[50,120,49,48]⟩=0:=by unfold mQ;rw[if_pos (by omega)];exact Oy
    have Zy:Hid (∀W,S k W->Cl 12 #[.i (1+s1),.i bz,.t ⟨#[50,120,49,48]⟩,.i (1+s2)] W λe w'=>∃p':Pl,e=.returned (.tuple #[.p p'.xb,.i 0])∧U (AJ (1+s1) bz.toNat ⟨#[50,120,49,48]⟩ (1+s2)) p' w'):=(Cm.o (1+s1) (1+s2) ⟨#[50,120,49,48]⟩ (by decide) hE2).1;have Zz:Hid (∀p' W,U (AJ (1+s1) bz.toNat ⟨#[50,120,49,48]⟩ (1+s2)) p' W->Cl 13 #[.i (1+s1),.i bz,.t ⟨#[50,120,49,48]⟩,.i (1+s2)] W λe w'=>∃q':Pl,e=.returned (.tuple #[.p q'.xb,.i 0])∧T p' q' w'):=(Cm.o (1+s1) (1+s2) ⟨#[50,120,49,48]⟩ (by decide) hE2).2;clear Cm HE hE hen hp1 hp2 hs1 hs2 hE2;go_wp2;go_region_held3 (λw'=>w'.cell? ⟨ib,k,none⟩=some (.int .i64 z)∧w'.cell? ⟨cb,1,none⟩=some (.int .i64 bz))
     (first
       |exact⟨j1,j2⟩
       |exact⟨e3,e1⟩
       |go_keep)
     (first
       |(go_at_call 12;refine(Tp.o _ (by first|exact HK.o|exact yH.o _ _ _ HK.o fR.drew|exact yH.o _ _ _ HK.o (fR.drewN _))).mono ?_;rintro e ZA ⟨rfl,u7⟩;have K7:Hid (S k ZA):=u7;obtain⟨j1,j2⟩:=OD.o ZA (VD.o _ _ u7);clear u7))
    all_goals
     go_wp2;go_region_held3 (λw'=>w'.cell? ⟨ib,k,none⟩=some (.int .i64 z)∧w'.cell? ⟨cb,1,none⟩=some (.int .i64 bz))
      (first
        |exact⟨l1,l2⟩
        |exact⟨j1,j2⟩
        |go_keep)
      (first
        |(go_at_call 13;refine(Tq.o _ (by first|exact K7.o|exact yH.o _ _ _ K7.o fR.drew|exact yH.o _ _ _ K7.o (fR.drewN _))).mono ?_;rintro e gV ⟨rfl,u8⟩;have K8:Hid (S k gV):=u8;obtain⟨l1,l2⟩:=OD.o gV (VD.o _ _ u8);clear u8))
     all_goals
      clear Tp Tq K7 j1 j2;go_wp2;go_region_held3 (λw'=>w'.cell? ⟨ib,k,none⟩=some (.int .i64 z)∧w'.cell? ⟨cb,1,none⟩=some (.int .i64 bz))
       (first
         |exact⟨j1,j2⟩
         |exact⟨l1,l2⟩
         |go_keep)
       (first
         |(have g:=OE;clear g;go_at_call 10;refine(OE.o _).mono ?_;rintro e w' ⟨rfl,hw'⟩;have hw'':=hw'.symm;subst hw'';clear OE)
         |(go_at_call 10;refine(Xb.o _).mono ?_;rintro e w' ⟨rfl,hw'⟩;have hw'':=hw'.symm;subst hw'')
         |(go_at_call 12;refine(Zy.o _ (by first|exact K8.o|exact yH.o _ _ _ K8.o fR.drew|exact yH.o _ _ _ K8.o (fR.drewN _))).mono ?_;rintro e w7 ⟨p',rfl,u7⟩;have H7:Hid (U (AJ (1+s1) bz.toNat ⟨#[50,120,49,48]⟩ (1+s2)) p' w7):=u7;obtain⟨j1,j2⟩:=OD.o w7 (Xa.o _ _ _ u7);clear u7))
      all_goals
       go_wp2;clear l1 l2;go_region_held3 (λw'=>w'.cell? ⟨ib,k,none⟩=some (.int .i64 z)∧w'.cell? ⟨cb,1,none⟩=some (.int .i64 bz))
        (first
          |exact⟨l1,l2⟩
          |exact⟨j1,j2⟩
          |go_keep)
        (first
          |(have g:=OG;clear g;go_at_call 10;refine(OG.o _).mono ?_;rintro e w' ⟨rfl,hw'⟩;have hw'':=hw'.symm;subst hw'';clear OG)
          |(go_at_call 10;refine(Xb.o _).mono ?_;rintro e w' ⟨rfl,hw'⟩;have hw'':=hw'.symm;subst hw'')
          |(go_at_call 13;refine(Zz.o p' _ (by first|exact H7.o|exact Tn.o _ _ _ _ H7.o fR.drew|exact Tn.o _ _ _ _ H7.o (fR.drewN _))).mono ?_;rintro e w8 ⟨q',rfl,u8⟩;have H8:Hid (T p' q' w8):=u8;obtain⟨l1,l2⟩:=OD.o w8 (KW.o _ _ _ u8).1.1;clear u8))
       all_goals
        go_wp2;clear j1 j2 l1 l2 H7 Zy Zz K8 Oa Xb
   all_goals
    obtain⟨⟨_,Xc,k1'⟩,Xd⟩:=KW.o _ _ _ H8.o;obtain⟨d',hd'⟩:=eX w8.heap.size;have ZB:Hid (∀W,Fr [] w8 W->Rc 14 #[.p p'.xb] W (.p p'.b) λw'=>w'=W):=λW hW=>GL (hW.gb.cell Xc (by simp));rw[hd']at Xd;have HM:Hid (MS wB nb kX (k+1) k k (k+1) (k+2) p' q' d' (w8.alloc (.cells #[.p p'.b,.p q'.b,bL] 54)).drew):=Xd;clear Xd H8 KW HTF Tn Xa yH OD e1 e2 e3;go_region_held3 (λw'=>w'.cell? ⟨p'.xb,0,none⟩=some (.pointer (some ⟨p'.b,0,none⟩))∧w'.cell? ⟨q'.xb,0,none⟩=some (.pointer (some ⟨q'.b,0,none⟩)))
     (first
       |exact⟨Xc,k1'⟩
       |go_keep)
     (first
       |(go_at_call 14;refine(ZB.o _ (by first|exact fR|exact fR.drew|exact fR.drewN _)).mono ?_;rintro e w' ⟨rfl,hw'⟩;have hw'':=hw'.symm;subst hw''))
    all_goals
     obtain⟨W9,vF⟩:=eX (w8.alloc (.cells #[.p p'.b,.p q'.b,bL] 54)).drew;have y9:W9.cell? (Ad d' 0)=some (.p p'.b):=by rw[<-vF,<-hd'];exact cell_of (di w8 _) (j:=0)
     rw[vF]at HM;rw[vF];clear vF hd' Xc k1' ZB;have P3:=MS.p3 (w0:=wB) (nb:=nb) (np:=kX) (m:=k+1) (i:=k) (c:=k+1) (z:=k+2) (p:=p') (q:=q') (d:=d') rfl;have P4:=MS.p4 (w0:=wB) (nb:=nb) (np:=kX) (m:=k+1) (a:=k+1) (i:=k) (c:=k+1) (z:=k+2) (p:=p') (q:=q') (d:=d') rfl;have P0:=MS.p0 (w0:=wB) (nb:=nb) (np:=kX) (m:=k+1) (a:=k+1) (b:=k+1) (z:=k+2) (p:=p') (q:=q') (d:=d');rw[HBB.o]at P3 P4 P0;have Q4:Hid (Pu _ _ BB nb 7 k 71 (.p q'.xb)):=P4;have Q0:Hid (Pu _ _ BB nb 0 (k+1) 55 (.p d')):=P0;obtain⟨xa,xc,xs,x6,hown,Hq,hpush⟩:=P3 W9 HM.o;have KM:Hid (W9.ownsRow BB 68 1 (.slice xa k xc) k xs∧BB≤W9.heap.size):=⟨hown,Hq⟩;have QF:Hid (∀v9 w9,(W9.alloc (.cells #[.p p'.xb] 68)).grownBy w9 (Value.slice xa k xc).ownBlock->w9.ownsRow BB 68 1 v9 (k+1) (xs++[.p p'.xb])->(v9.ownBlock=(Value.slice xa k xc).ownBlock∨v9.ownBlock=some (W9.alloc (.cells #[.p p'.xb] 68)).heap.size)->(w9.cell? (Ad nb 6)=some (.slice xa k xc)∧w9.frozen? (Ad nb 6)=false)∧MS wB nb kX (k+1) (k+1) k (k+1) (k+2) p' q' d' (w9.setCell (Ad nb 6) v9)):=hpush;have hk3:k<3:=by omega
     clear hown Hq hpush P3 P4 P0 HM;go_wp2_with (first
      |(have g:=KM;clear g;at_builtin;refine wpList_append_own_at _ rfl _ _ 43 rfl BB 68 i8 _ 1 8 Tryz.underlying43 Zq Te Tf Tg rfl (by omega) (.slice xa k xc) k xs rfl (KM.o.1.alloc _) (Ad W9.heap.size 0) 1 1 [.p p'.xb] rfl rfl (World.news_of_block (cs:=#[.p p'.xb]) (t:=68) (fr:=(0,0)) (di W9 _)) (by simp[Value.oneCell']) (by unfold maxLen;omega) (by omega) (by have:=KM.o.2;simp at this⊢;omega) ?_;intro v9 oG aH aJ _ iL;obtain⟨xv,xd,ni⟩:=ah aH;subst ni;obtain⟨⟨x1,x2⟩,S9⟩:=QF.o _ oG aJ aH iL;obtain⟨ya,yc,ys,y6,hown,Hq,hpush⟩:=Q4.o (oG.setCell (Ad nb 6) (.slice xv (k+1) xd)) S9;have y7:oG.cell? (Ad nb 7)=some (.slice ya k yc):=(by rw[<-y6];exact(hJ _ _ _ _ (by simp)).symm);have KN:Hid ((oG.setCell (Ad nb 6) (.slice xv (k+1) xd)).ownsRow BB 71 1 (.slice ya k yc) k ys∧BB≤(oG.setCell (Ad nb 6) (.slice xv (k+1) xd)).heap.size):=⟨hown,Hq⟩;have MU:Hid (∀v9 w9,((oG.setCell (Ad nb 6) (.slice xv (k+1) xd)).alloc (.cells #[.p q'.xb] 71)).grownBy w9 (Value.slice ya k yc).ownBlock->w9.ownsRow BB 71 1 v9 (k+1) (ys++[.p q'.xb])->(v9.ownBlock=(Value.slice ya k yc).ownBlock∨v9.ownBlock=some ((oG.setCell (Ad nb 6) (.slice xv (k+1) xd)).alloc (.cells #[.p q'.xb] 71)).heap.size)->(w9.cell? (Ad nb 7)=some (.slice ya k yc)∧w9.frozen? (Ad nb 7)=false)∧MS wB nb kX (k+1) (k+1) (k+1) (k+1) (k+2) p' q' d' (w9.setCell (Ad nb 7) v9)):=hpush;clear hown Hq hpush Q4;clear aH aJ iL S9 KM QF)
      |(have g:=KN;clear g;at_builtin;refine wpList_append_own_at _ rfl _ _ 44 rfl BB 71 i7 _ 1 8 Tryz.underlying44 Zr Ti Tj Tk rfl (by omega) (.slice ya k yc) k ys rfl (KN.o.1.alloc _) (Ad oG.heap.size 0) 1 1 [.p q'.xb] rfl rfl (World.news_of_block (cs:=#[.p q'.xb]) (t:=71) (fr:=(0,0)) (Hf oG _ _ _ _)) (by simp[Value.oneCell']) (by unfold maxLen;omega) (by omega) (by have:=KN.o.2;simp at this⊢;omega) ?_;intro v9 Eh aH aJ _ iL;obtain⟨yv,yd,ni⟩:=ah aH;subst ni;obtain⟨⟨y1,y2⟩,S9⟩:=MU.o _ Eh aJ aH iL;obtain⟨za,zc,zs,z6,hown,Hq,hpush⟩:=Q0.o (Eh.setCell (Ad nb 7) (.slice yv (k+1) yd)) S9;have z7:Eh.cell? (Ad nb 0)=some (.slice za (k+1) zc):=(by rw[<-z6];exact(hJ _ _ _ _ (by simp)).symm);have Gu:Hid ((Eh.setCell (Ad nb 7) (.slice yv (k+1) yd)).ownsRow BB 55 1 (.slice za (k+1) zc) (k+1) zs∧BB≤(Eh.setCell (Ad nb 7) (.slice yv (k+1) yd)).heap.size):=⟨hown,Hq⟩;have QG:Hid (∀v9 w9,((Eh.setCell (Ad nb 7) (.slice yv (k+1) yd)).alloc (.cells #[.p d'] 55)).grownBy w9 (Value.slice za (k+1) zc).ownBlock->w9.ownsRow BB 55 1 v9 ((k+1)+1) (zs++[.p d'])->(v9.ownBlock=(Value.slice za (k+1) zc).ownBlock∨v9.ownBlock=some ((Eh.setCell (Ad nb 7) (.slice yv (k+1) yd)).alloc (.cells #[.p d'] 55)).heap.size)->(w9.cell? (Ad nb 0)=some (.slice za (k+1) zc)∧w9.frozen? (Ad nb 0)=false)∧MS wB nb kX (k+1) (k+1) (k+1) (k+1+1) (k+2) p' q' d' (w9.setCell (Ad nb 0) v9)):=hpush;clear hown Hq hpush Q0;clear aH aJ iL S9 KN MU)
      |(have g:=Gu;clear g;at_builtin;refine wpList_append_own_at _ rfl _ _ 33 rfl BB 55 i5 _ 1 8 Tryz.underlying33 hi5 Oz OA OB rfl (by omega) (.slice za (k+1) zc) (k+1) zs rfl (Gu.o.1.alloc _) (Ad Eh.heap.size 0) 1 1 [.p d'] rfl rfl (World.news_of_block (cs:=#[.p d']) (t:=55) (fr:=(0,0)) (Hf Eh _ _ _ _)) (by simp[Value.oneCell']) (by unfold maxLen;omega) (by omega) (by have:=Gu.o.2;simp at this⊢;omega) ?_;intro v9 vZ aH aJ _ iL;obtain⟨zv,zd,ni⟩:=ah aH;subst ni;obtain⟨⟨z1,z2⟩,S9⟩:=QG.o _ vZ aJ aH iL;have Xe:Hid (MS wB nb kX (k+1) (k+1) (k+1) (k+1+1) (k+2) p' q' d' (vZ.setCell (Ad nb 0) (.slice zv (k+1+1) zd))):=S9;clear aH aJ iL S9 Gu QG))
     have HN:Hid (S (k+1) (vZ.setCell (Ad nb 0) (.slice zv (k+1+1) zd))):=by rw[vY.o];exact⟨p',q',d',Xe.o⟩
     go_roundw
     case rel=>exact⟨k+1,by omega,by go_num,HN⟩
     simp[intOf];omega
  have hke:k=kX:=by omega
  subst hke;have HD:Hid (∃p q d,MS wB nb k k k k (k+1) (k+1) p q d W6):=by have h9:=HK.o;rw[vY.o]at h9;exact h9
  clear OC;go_wp2;obtain⟨p9,q9,d9,h9⟩:=HD.o;obtain⟨L,A,V,g1,⟨g2,g3⟩,g4,g5⟩:=h9.done HB.o.1;subst g2;exact ez (ft rfl _ _ _) rfl ⟨L,A,V,k,rfl,g1,g3,g4,g5⟩
end
end Go.Proofs.YtjceeemlilnplaaGreatDoor
