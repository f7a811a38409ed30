import Derived.Test.YtjceeemlilnplaaGreatDoorM37
import Derived.Test.YtjceeemlilnplaaGreatDoorM12
set_option maxRecDepth 100000
set_option maxHeartbeats 12800000
set_option linter.all false
namespace Go.Proofs.YtjceeemlilnplaaGreatDoor
open Go.RowKit Go.Maps Go.MuLone
section
variable {L:Ly}{A C A' C':Nt}{n n' B:Nat}{X X':Nat->Option Row}{Λ Ee:Lm}{w0 W W':World}{G E F F':List Nat}{p:Pl}{s s':Sc}{x x':Rp}{O:gq}{i j:Nat}{r r':ak}{f g:Nat}{args:Nat->Array Value}{v:Value}{y:Row}
theorem NP.SH(h:NP L A C n X Λ w0 W)(j:Nat):∃G,iJ L A n j G W∧∀A' n' G' W',n≤n'->(∀k,k≠j->∀G W,iJ L A n' k G W->iJ L A' n' k G W)->Gw G G' W W'->iJ L A' n' j G' W'->NP L A' C n' X Λ w0 W':=by obtain⟨h1,fp,h⟩:=h;have hq:=h.q (1,j);rw[rJ]at hq;exact⟨fp (1,j),hq,λA' n' G' W' hk ho g hn=>⟨h1,_,h.step (bQ h1) (bQ h1) g (by rw[rJ];exact hn) λi hi G W hq=>wu hi hk ho hq⟩⟩
theorem NP.ML(h:NP L A C n X Λ w0 W)(j:Nat):∃G,iP L C n j G W∧∀C' n' G' W',n≤n'->(∀k,k≠j->∀G W,iP L C n' k G W->iP L C' n' k G W)->Gw G G' W W'->iP L C' n' j G' W'->NP L A C' n' X Λ w0 W':=by obtain⟨h1,fp,h⟩:=h;have hq:=h.q (2,j);rw[rH]at hq;exact⟨fp (2,j),hq,λA' n' G' W' hk ho g hn=>⟨h1,_,h.step (bQ h1) (bQ h1) g (by rw[rH];exact hn) λi hi G W hq=>wz hi hk ho hq⟩⟩
theorem NP.Oe(h:NP L A C n X Λ w0 W)(j i:Nat):∃G,iJ L A n j G W∧∀A' n' G' W'(y:Row),n≤n'->(∀k,k≠j->∀G W,iJ L A n' k G W->iJ L A' n' k G W)->Gw G G' W W'->iJ L A' n' j G' W'->W'.ownsRow W.heap.size y.t y.sz y.v y.n y.xs->(∀k,y.v.ownBlock=some k->k∉G')->NP L A' C n' (aO X i (some y)) Λ w0 W':=by
 obtain⟨h1,fp,h⟩:=h;have hq:=h.q (1,j);rw[rJ]at hq;refine⟨fp (1,j),hq,λA' n' G' W' y hk ho g hn hy hy2=>⟨h1,_,h.step2 (j:=(3,i)) (R:=y.v.ownBlock.toList) (bQ h1) (bQ h1) g (by simp) (λk hk=>?_) (by rw[rJ];exact hn) ?_ λa ha hb G W hq=>jW hb (wu ha hk ho hq)⟩⟩
 .have hk:y.v.ownBlock=some k:=by simpa using hk
  exact⟨(av hy hk).1,hy2 k hk⟩
 rw[lQ];unfold aO;rw[if_pos rfl];exact⟨rfl,dD hy h.fr.size⟩
theorem NP.WG(h:NP L A C n X Λ w0 W)(j i:Nat):∃G,iP L C n j G W∧∀C' n' G' W'(y:Row),n≤n'->(∀k,k≠j->∀G W,iP L C n' k G W->iP L C' n' k G W)->Gw G G' W W'->iP L C' n' j G' W'->W'.ownsRow W.heap.size y.t y.sz y.v y.n y.xs->(∀k,y.v.ownBlock=some k->k∉G')->NP L A C' n' (aO X i (some y)) Λ w0 W':=by
 obtain⟨h1,fp,h⟩:=h;have hq:=h.q (2,j);rw[rH]at hq;refine⟨fp (2,j),hq,λA' n' G' W' y hk ho g hn hy hy2=>⟨h1,_,h.step2 (j:=(3,i)) (R:=y.v.ownBlock.toList) (bQ h1) (bQ h1) g (by simp) (λk hk=>?_) (by rw[rH];exact hn) ?_ λa ha hb G W hq=>jW hb (wz ha hk ho hq)⟩⟩
 .have hk:y.v.ownBlock=some k:=by simpa using hk
  exact⟨(av hy hk).1,hy2 k hk⟩
 rw[lQ];unfold aO;rw[if_pos rfl];exact⟨rfl,dD hy h.fr.size⟩
theorem NP.K4(h:NP L A C n X Λ w0 W)(f:Fr [] W W')(i:Nat)(hy:W'.ownsRow W.heap.size y.t y.sz y.v y.n y.xs):NP L A C n (aO X i (some y)) Λ w0 W':=by
 obtain⟨h1,fp,h⟩:=h;refine⟨h1,_,(h.same (bQ h1) f).put (i:=(3,i)) (G:=y.v.ownBlock.toList) (λk hk=>?_) ?_ λa ha G W hq=>jW ha hq⟩
 .have hk:y.v.ownBlock=some k:=by simpa using hk
  have h2:=hy.lt k hk;have h3:=(av hy hk).1;have h4:=h.fr.size;refine⟨⟨by omega,h2.2⟩,λa _ hm=>?_⟩;have:=(h.ge a k hm).2;omega
 rw[lQ];unfold aO;rw[if_pos rfl];exact⟨rfl,dD hy h.fr.size⟩
theorem NP.row(h:NP L A C n X Λ w0 W)(hx:X i=some y):W.ownsRow w0.heap.size y.t y.sz y.v y.n y.xs:=by obtain⟨h1,fp,h⟩:=h;have hq:=h.q (3,i);rw[lQ,hx]at hq;exact hq.2
theorem NP.clear(h:NP L A C n X Λ w0 W):NP L A C n (λ_=>none) Λ w0 W:=by
 obtain⟨h1,fp,h⟩:=h;refine⟨h1,λi=>if i.1=3 then[]else fp i,λa b k ha hb=>?_,λa k hk=>?_,h.fr,λa=>?_⟩
 .by_cases e:a.1=3
  .simp[e]at ha
  by_cases e2:b.1=3
  .simp[e2]at hb
  simp only[e,e2,if_false]at ha hb;exact h.ap a b k ha hb
 .by_cases e:a.1=3
  .simp[e]at hk
  simp only[e,if_false]at hk;exact h.ge a k hk
 have hq:=h.q a;by_cases e:a.1=3
 .have:a≠(0,0):=λe2=>by rw[e2]at e;cases e
  simp[fJ,e,this,JU]
 simp only[e,if_false];simpa only[fJ,e,if_false]using hq
theorem NP.WL(h:NP L A C n X Λ w0 W)(hx:X i=some y){y':Row}(f:Fr y.v.ownBlock.toList W W')(hy:W'.ownsRow w0.heap.size y'.t y'.sz y'.v y'.n y'.xs)(e:y'.v.ownBlock=y.v.ownBlock):NP L A C n (aO X i (some y')) Λ w0 W':=by obtain⟨h1,fp,h⟩:=h;have hq:=h.q (3,i);rw[lQ,hx]at hq;refine⟨h1,_,h.step (i:=(3,i)) (G:=y.v.ownBlock.toList) (bQ h1) (bQ h1) ⟨by rw[hq.1];exact f,λk hk=>by rw[hq.1];exact Or.inl hk⟩ ?_ λa ha G W hq=>jW ha hq⟩;rw[lQ];unfold aO;rw[if_pos rfl];exact⟨by rw[e],hy⟩
theorem NP.law(h:NP L A C n X Λ w0 W):∃G,Λ G W∧(∀k∈G,w0.heap.size≤k∧k<W.heap.size)∧Fr [] w0 W∧∀Ee G' W',AA Ee->Gw G G' W W'->Ee G' W'->NP L A C n X Ee w0 W':=by obtain⟨h1,fp,h⟩:=h;have hq:=h.q (0,0);rw[yI]at hq;exact⟨fp (0,0),hq,h.ge (0,0),h.fr,λEe G' W' h2 g hn=>⟨h2,_,h.step (bQ h1) (bQ h2) g (by rw[yI];exact hn) λi hi G W hq=>rQ hi hq⟩⟩
theorem NP.GU(h:NP L A C n X Λ w0 W)(hx:X i=some y):∃G,Λ G W∧(∀k,y.v.ownBlock=some k->k∉G)∧(∀k∈G,w0.heap.size≤k∧k<W.heap.size)∧∀Ee G' W',AA Ee->Gw (G++y.v.ownBlock.toList) G' W W'->Ee G' W'->NP L A C n (aO X i none) Ee w0 W':=by
 obtain⟨h1,fp,h⟩:=h;have hl:=h.q (0,0);rw[yI]at hl;have hq:=h.q (3,i);rw[lQ,hx]at hq;have hne:∀k,y.v.ownBlock=some k->∀a,a≠(3,i)->k∉fp a:=λk hk a ha hm=>ha (h.ap a (3,i) k hm (by rw[hq.1];simp[hk]));refine⟨fp (0,0),hl,λk hk=>hne k hk (0,0) (by simp),h.ge (0,0),λEe G' W' h2 g hn=>?_⟩;have k1:NQ (fJ L A C n w0.heap.size (aO X i none) Λ) w0 W (GZ fp (3,i) []):=by refine h.put (λk hk=>by simp at hk) ?_ λa ha G W hq=>jW ha hq;rw[lQ];unfold aO;rw[if_pos rfl];rfl
 have h3:AA (λG' W'=>(G'=fp (0,0)++y.v.ownBlock.toList∧Λ (fp (0,0)) W')∧∀k∈G',k<W'.heap.size):=⟨λG E W W' hq f hm=>⟨⟨hq.1.1,h1.off _ E W W' hq.1.2 f λk hk=>hm k (by rw[hq.1.1];simp[hk])⟩,λk hk=>hI (hq.2 k hk) f.size⟩,λG W hq=>hq.2⟩;have k2:NQ (fJ L A C n w0.heap.size (aO X i none) (λG' W'=>(G'=fp (0,0)++y.v.ownBlock.toList∧Λ (fp (0,0)) W')∧∀k∈G',k<W'.heap.size)) w0 W (GZ (GZ fp (3,i) []) (0,0) (fp (0,0)++y.v.ownBlock.toList)):=by
  refine k1.put (λk hk=>?_) ?_ λa ha G W hq=>rQ ha hq
  .rcases dT.1 hk with hk|hk
   .refine⟨h.ge (0,0) k hk,λa ha hm=>?_⟩;by_cases e:a=(3,i)
    .rw[e,eF]at hm;simp at hm
    rw[gW e]at hm;exact ha (h.ap a (0,0) k hm hk)
   have hk':y.v.ownBlock=some k:=by simpa using hk
   refine⟨h.ge (3,i) k (by rw[hq.1];exact hk),λa ha hm=>?_⟩;by_cases e:a=(3,i)
   .rw[e,eF]at hm;simp at hm
   rw[gW e]at hm;exact hne k hk' a e hm
  rw[yI];refine⟨⟨rfl,hl⟩,λk hk=>?_⟩;rcases dT.1 hk with hk|hk
  .exact(h.ge (0,0) k hk).2
  exact(h.ge (3,i) k (by rw[hq.1];exact hk)).2
 refine⟨h2,_,k2.step (i:=(0,0)) (G:=G') (bQ h3) (bQ h2) (by rw[eF];exact g) (by rw[yI];exact hn) λa ha G W hq=>rQ ha hq⟩
theorem iJ.yM{a:Array Value}(h:iJ L A n j G W)(hj:j≤L.m)(hb:∀F,Sk (L.p j).B W (L.p j).b F (A.r j) n->(∀k∈F,k∈G)->Rc f a W v λw'=>∃F',Sk (L.p j).B w' (L.p j).b F' r' (n+1)∧Gw F F' W w'):Rc f a W v λw'=>∃G',iJ L (A.dA j r') (n+1) j G' w'∧Gw G G' W w':=by
 unfold iJ at h;unfold Nt.r at hb;by_cases e:j=0
 .subst e;simp only[if_true]at h hb;obtain⟨F,h,rfl⟩:=h;refine(hb F h.sk λk hk=>by simp[hk]).mono ?_;rintro e w' ⟨he,F',k',g'⟩;refine⟨he,_,?_,(g'.lift [(L.p 0).xb,(L.p 0).pb]).mU (xu (L.p 0) A.s.rs.length)⟩;unfold iJ Nt.dA;simp only[if_true];exact⟨F',h.step k' g',rfl⟩
 simp only[if_neg e,if_pos hj]at h hb;obtain⟨F,a,b,c,rfl⟩:=h;refine(hb F a λk hk=>by simp[hk]).mono ?_;rintro e' w' ⟨he,F',k',g'⟩;refine⟨he,_,?_,(g'.lift [(L.p j).xb]).mU (xu (L.p j) (A.k j).rs.length)⟩;unfold iJ Nt.dA Nt.fQ;rw[if_neg e,if_pos hj,if_neg e];simp only[if_true];exact⟨F',k',b.step g',c.step g',rfl⟩
theorem iP.yM{a:Array Value}(h:iP L A n j G W)(hj:j≤L.m)(hb:∀F,iw (L.r j).B W (L.r j).b F (A.r j) n->(∀k∈F,k∈G)->Rc f a W v λw'=>∃F',iw (L.r j).B w' (L.r j).b F' r' (n+1)∧Gw F F' W w'):Rc f a W v λw'=>∃G',iP L (A.dA j r') (n+1) j G' w'∧Gw G G' W w':=by
 unfold iP at h;unfold Nt.r at hb;by_cases e:j=0
 .subst e;simp only[if_true]at h hb;obtain⟨F,h,rfl⟩:=h;refine(hb F h.sk λk hk=>by simp[hk]).mono ?_;rintro e w' ⟨he,F',k',g'⟩;refine⟨he,_,?_,(g'.lift [(L.r 0).xb,(L.r 0).pb]).mU (xu (L.r 0) A.s.rs.length)⟩;unfold iP Nt.dA;simp only[if_true];exact⟨F',h.step k' g',rfl⟩
 simp only[if_neg e,if_pos hj]at h hb;obtain⟨F,a,b,c,rfl⟩:=h;refine(hb F a λk hk=>by simp[hk]).mono ?_;rintro e' w' ⟨he,F',k',g'⟩;refine⟨he,_,?_,(g'.lift [(L.r j).xb]).mU (xu (L.r j) (A.k j).rs.length)⟩;unfold iP Nt.dA Nt.fQ;rw[if_neg e,if_pos hj,if_neg e];simp only[if_true];exact⟨F',k',b.step g',c.step g',rfl⟩
theorem iJ.other{k:Nat}(hk:k≠j)(h:iJ L A n k G W):iJ L (A.dA j r) n k G W:=by
 unfold iJ Nt.dA Nt.fQ at*;by_cases e0:k=0
 .have:j≠0:=λe=>hk (by omega);simpa only[e0,if_true,if_neg this]using h
 by_cases e1:j=0
 .simpa only[e1,if_true,if_neg e0]using h
 simpa only[if_neg e1,if_neg hk]using h
theorem iP.other{k:Nat}(hk:k≠j)(h:iP L A n k G W):iP L (A.dA j r) n k G W:=by
 unfold iP Nt.dA Nt.fQ at*;by_cases e0:k=0
 .have:j≠0:=λe=>hk (by omega);simpa only[e0,if_true,if_neg this]using h
 by_cases e1:j=0
 .simpa only[e1,if_true,if_neg e0]using h
 simpa only[if_neg e1,if_neg hk]using h
theorem NP.yN(h:NP L A C n X Λ w0 W)(hj:j≤L.m)(hb:BC f g args (A.r j) v r')(hn:n≤1000000000):Rc f (args (L.p j).b) W v λw'=>NP L (A.dA j r') C (n+1) X Λ w0 w':=by obtain⟨G,h1,h2⟩:=h.SH j;refine(h1.yM hj λF s _=>hb.u s hn).mono ?_;rintro e w' ⟨he,G',k',g'⟩;exact⟨he,h2 _ _ G' w' (by omega) (λk hk G W h=>h.other hk) g' k'⟩
theorem NP.yO(h:NP L A C n X Λ w0 W)(hj:j≤L.m)(hb:BC f g args (C.r j) v r'):Rc g (args (L.r j).b) W v λw'=>NP L A (C.dA j r') (n+1) X Λ w0 w':=by obtain⟨G,h1,h2⟩:=h.ML j;refine(h1.yM hj λF s _=>hb.ref s).mono ?_;rintro e w' ⟨he,G',k',g'⟩;exact⟨he,h2 _ _ G' w' (by omega) (λk hk G W h=>h.other hk) g' k'⟩
end
structure Lw where
 E:We
 kv:Value
 mv:Value
 K:List (Nat×Nat×Nat)
 M:List (Nat×Nat×Nat)
 Y:List (Int×Int×cC)
def fO(l:List (Int×Int×cC)):List Value:=l.flatMap λx=>[.i x.1,.i x.2.1,.t x.2.2]
def ptr(b:Nat):Value:=.p b
structure LM(L:Ly)(B:Nat)(V:Lw)(W:World):Prop where
 wm:WM B W L.nb V.E V.kv V.mv V.K V.M
 e1:V.E.x1=.p (L.p 0).xb
 e2:V.E.x2=.p (L.r 0).xb
 eD:V.E.D=(List.range (L.m+1)).map L.d
 ds:∀i,i≤L.m->W.heap[L.d i]?=some (.cells #[.p (L.p i).b,.p (L.r i).b,.slice none 0 0] 54 (0,0))
 xo:W.ownsRow B 68 1 V.E.x3 L.m ((List.range L.m).map λi=>.p (L.p (i+1)).xb)
 yo:W.ownsRow B 71 1 V.E.x4 L.m ((List.range L.m).map λi=>.p (L.r (i+1)).xb)
 wo:W.ownsRow B 79 3 V.E.x5 V.Y.length (fO V.Y)
def vsB(l:List Value):List Nat:=l.flatMap λv=>v.ownBlock.toList
def Ar(L:Ly)(V:Lw):List Nat:=L.nb::(vsB [V.E.sv,V.E.tv,V.kv,V.mv,V.E.x3,V.E.x4,V.E.x5]++(V.K.map (λx=>x.1)++(V.M.map (λx=>x.1)++(List.range (L.m+1)).map L.d)))
def Zp(L:Ly)(B:Nat)(V:Lw):Lm:=λG W=>LM L B V W∧G=Ar L V
section
variable {L:Ly}{A C A' C':Nt}{n n' B:Nat}{X X':Nat->Option Row}{Λ Ee:Lm}{w0 W W':World}{G F F':List Nat}{i j:Nat}{v:Value}{y:Row}{V V':Lw}{E:We}{kv mv:Value}{K M:List (Nat×Nat×Nat)}{wb:Nat}
theorem Cj{k:Nat}{l:List Value}:k∈vsB l↔∃v∈l,v.ownBlock=some k:=by simp[vsB]
theorem WM.off(h:WM B W wb E kv mv K M)(f:Fr F W W')(h0:wb∉F)(h1:∀v∈[E.sv,E.tv,kv,mv],∀k,v.ownBlock=some k->k∉F)(h2:∀x∈K,x.1∉F)(h3:∀x∈M,x.1∉F):WM B W' wb E kv mv K M:=
 ⟨(f.block wb (cY.1 h.blk).1 h0).trans h.blk,dF h.so f (h1 _ (by simp)),dF h.ko f (h1 _ (by simp)),dF h.mo f (h1 _ (by simp)),λi x hx=>⟨(h.kk i x hx).1,(h.kk i x hx).2.of (f.block _ (h.kk i x hx).2.lt (h2 x (eW hx)))⟩,λi x hx=>⟨(h.mi i x hx).1,(h.mi i x hx).2.of (f.block _ (h.mi i x hx).2.lt (h3 x (eW hx)))⟩,h.hw,dF h.to f (h1 _ (by simp))⟩
theorem aU{k:Nat}:k∈Ar L V↔k=L.nb∨(∃v∈[V.E.sv,V.E.tv,V.kv,V.mv,V.E.x3,V.E.x4,V.E.x5],v.ownBlock=some k)∨(∃x∈V.K,x.1=k)∨(∃x∈V.M,x.1=k)∨∃i,i≤L.m∧L.d i=k:=by unfold Ar;rw[ek,dT,dT,dT,Cj];simp only[fm,gk,Nat.lt_succ_iff]
theorem LM.off(h:LM L B V W)(f:Fr F W W')(hn:∀k∈Ar L V,k∉F):LM L B V W':=by have hv:∀v∈[V.E.sv,V.E.tv,V.kv,V.mv,V.E.x3,V.E.x4,V.E.x5],∀k,v.ownBlock=some k->k∉F:=λv hv k hk=>hn k (aU.2 (Or.inr (Or.inl ⟨v,hv,hk⟩)));refine⟨h.wm.off f (hn _ (aU.2 (Or.inl rfl))) (λv h9=>hv v (by simp at h9⊢;rcases h9 with r|r|r|r<;>simp[r])) (λx hx=>hn _ (aU.2 (Or.inr (Or.inr (Or.inl ⟨x,hx,rfl⟩))))) (λx hx=>hn _ (aU.2 (Or.inr (Or.inr (Or.inr (Or.inl ⟨x,hx,rfl⟩)))))),h.e1,h.e2,h.eD,λi hi=>?_,dF h.xo f (hv _ (by simp)),dF h.yo f (hv _ (by simp)),dF h.wo f (hv _ (by simp))⟩;have h9:=h.ds i hi;exact(f.block _ (cY.1 h9).1 (hn _ (aU.2 (Or.inr (Or.inr (Or.inr (Or.inr ⟨i,hi,rfl⟩))))))).trans h9
theorem LM.lt(h:LM L B V W):∀k∈Ar L V,k<W.heap.size:=λk hk=>by
 rcases aU.1 hk with rfl|⟨v,hv,hk⟩|⟨x,hx,rfl⟩|⟨x,hx,rfl⟩|⟨i,hi,rfl⟩
 .exact(cY.1 h.wm.blk).1
 .simp only[ek,fy,or_false]at hv;rcases hv with rfl|rfl|rfl|rfl|rfl|rfl|rfl
  .exact(h.wm.so.lt k hk).2
  .exact(h.wm.to.lt k hk).2
  .exact(h.wm.ko.lt k hk).2
  .exact(h.wm.mo.lt k hk).2
  .exact(h.xo.lt k hk).2
  .exact(h.yo.lt k hk).2
  exact(h.wo.lt k hk).2
 .obtain⟨i,hi,e⟩:=List.getElem_of_mem hx;exact(h.wm.kk i x (by rw[dp hi,e])).2.lt
 .obtain⟨i,hi,e⟩:=List.getElem_of_mem hx;exact(h.wm.mi i x (by rw[dp hi,e])).2.lt
 exact(cY.1 (h.ds i hi)).1
theorem Az:AA (Zp L B V):=⟨λG E W W' h f hn=>⟨h.1.off f (by rw[<-h.2];exact hn),h.2⟩,λG W h=>by rw[h.2];exact h.1.lt⟩
def NW(L:Ly)(A C:Nt)(n:Nat)(X:Nat->Option Row)(V:Lw)(w0 W:World):Prop:=NP L A C n X (Zp L w0.heap.size V) w0 W
theorem NW.lm(h:NW L A C n X V w0 W):LM L w0.heap.size V W:=by obtain⟨G,h1,_⟩:=NP.law h;exact h1.1
theorem NW.same(h:NW L A C n X V w0 W)(f:Fr [] W W'):NW L A C n X V w0 W':=NP.same h f
theorem NW.up(h:NW L A C n X V w0 W)(hk:n≤n'):NW L A C n' X V w0 W:=NP.up h hk
theorem NW.law(h:NW L A C n X V w0 W)(f:Fr (Ar L V) W W')(h':LM L w0.heap.size V' W')(hn:∀k∈Ar L V',k∈Ar L V∨W.heap.size≤k):NW L A C n X V' w0 W':=by obtain⟨G,h1,_,_,h2⟩:=NP.law h;exact h2 _ _ _ Az ⟨by rw[h1.2];exact f,λk hk=>by rw[h1.2];exact hn k hk⟩ ⟨h',rfl⟩
theorem NW.GU(h:NW L A C n X V w0 W)(hx:X i=some y)(f:Fr (Ar L V++y.v.ownBlock.toList) W W')(h':LM L w0.heap.size V' W')(hn:∀k∈Ar L V',(k∈Ar L V∨y.v.ownBlock=some k)∨W.heap.size≤k):NW L A C n (aO X i none) V' w0 W':=by obtain⟨G,h1,_,_,h2⟩:=NP.GU h hx;exact h2 _ _ _ Az ⟨by rw[h1.2];exact f,λk hk=>by rw[h1.2,dT];simpa using hn k hk⟩ ⟨h',rfl⟩
theorem NW.Au(h:NW L A C n X V w0 W)(hx:X i=some y):∀k,y.v.ownBlock=some k->k∉Ar L V:=by obtain⟨G,h1,h2,_⟩:=NP.GU h hx;rw[<-h1.2];exact h2
end
def opC(kd at' a b:Int)(t:cC)(l:Value):List Value:=[.i kd,.i at',.i a,.i b,.t t,l]
def eO(ob:Nat)(t:TypeId)(xs:List Value):Row:=⟨.slice (some (Ad ob 0)) 1 1,t,xs.length,1,xs⟩
def fH:Nat->Option Row:=λ_=>none
section
variable {L:Ly}{A C A' C':Nt}{n n' B:Nat}{X X':Nat->Option Row}{w0 W W' w:World}{i j ob:Nat}{v:Value}{y:Row}{V V':Lw}{xs:List Value}{t:TypeId}{r':ak}
theorem NP.ok(h:NW L A C n X V w0 W)(hj:j≤L.m):Ok n (A.r j)∧Ok n (C.r j):=by
 obtain⟨G,h1,_⟩:=NP.SH h j;obtain⟨G',h2,_⟩:=NP.ML h j;unfold iJ at h1;unfold iP at h2;unfold Nt.r;by_cases e:j=0
 .rw[if_pos e]at h1 h2;rw[if_pos e,if_pos e];obtain⟨F,h,_⟩:=h1;obtain⟨F',h',_⟩:=h2;exact⟨h.sk.2,h'.sk.2⟩
 rw[if_neg e,if_pos hj]at h1 h2;rw[if_neg e,if_neg e];obtain⟨F,h,_⟩:=h1;obtain⟨F',h',_⟩:=h2;exact⟨h.2,h'.2⟩
theorem NW.alloc(h:NW L A C n X V w0 W)(i:Nat)(t:TypeId)(xs:List Value):NW L A C n (aO X i (some (eO W.heap.size t xs))) V w0 (W.alloc (.cells xs.toArray t)):=by
 refine NP.K4 h (fR.alloc _) i ⟨?_,Or.inr ⟨W.heap.size,1,xs.toArray,rfl,eh _,di W _,eh _,by show 1≤maxLen;unfold maxLen;omega,?_,?_⟩⟩
 .show xs.length=1*xs.length;omega
 .show xs.toArray.size=1*xs.length;simp
 show xs.toArray.toList.take (1*xs.length)=xs;simp
theorem NW.cell(h:NW L A C n X V w0 W)(hx:X i=some (eO ob t xs)):∀k,k<xs.length->W.cell? (Ad ob k)=xs[k]?:=by
 have h1:=NP.row h hx;obtain⟨g,e,_,hc⟩:=aB h1 (by show 0<1;omega);have e:ob=g:=by simpa using e
 subst e
 exactλk hk=>hc k (by show k<1*xs.length;omega)
theorem NW.Fe{kd at' a b:Int}{t:cC}{l:Value}(h:NW L A C n X V w0 W)(hx:X 5=some (eO ob 32 (opC kd at' a b t l)))(hj:j≤L.m):(W.cell? (Ad ob 0)=some (.i kd)∧W.cell? (Ad ob 2)=some (.i a)∧W.cell? (Ad ob 3)=some (.i b)∧W.cell? (Ad ob 4)=some (.t t)∧W.cell? (Ad ob 5)=some l∧W.cell? (Ad ob 1)=some (.i at'))∧W.cell? (Ad (L.d j) 0)=some (.p (L.p j).b)∧W.cell? (Ad (L.d j) 1)=some (.p (L.r j).b):=by have hc:=h.cell hx;have hd:=h.lm.ds j hj;exact⟨⟨hc 0 (by simp[opC]),hc 2 (by simp[opC]),hc 3 (by simp[opC]),hc 4 (by simp[opC]),hc 5 (by simp[opC]),hc 1 (by simp[opC])⟩,ce hd rfl,ce hd rfl⟩
theorem Fg(wb db ob xb rb f g:Nat)(kd at' a b:Int)(t:cC)(l v:Value)(args:Nat->Array Value)(P0 P1 P2:World->Prop)(w:World)(jT:w.heap.size=ob)
 (hk:(∃z,kd=1∧f=63∧g=64∧(args=λb=>#[.p b,.i a,.t t])∧v=.i z)∨(∃u z,kd=2∧f=28∧g=29∧(args=λb=>#[.p b,.i a])∧v=.tuple #[.t u,.i z])∨(∃u z,kd=3∧f=65∧g=66∧(args=λb=>#[.p b,.i a])∧v=.tuple #[.i u,.i z])∨(∃u z,kd=5∧f=68∧g=69∧(args=λx=>#[.p x,.i a,.i b])∧v=.tuple #[.t u,.i z])∨(∃z,kd=6∧f=70∧g=71∧(args=λb=>#[.p b,.i a])∧v=.i z)∨(∃z,kd=7∧f=72∧g=73∧(args=λb=>#[.p b,.i a])∧v=.i z)∨(∃z,kd=9∧f=75∧g=76∧(args=λb=>#[.p b,.i a])∧v=.i z)∨(∃z,kd=10∧f=77∧g=78∧(args=λb=>#[.p b,.i a])∧v=.i z))
 (h0:P0 (w.alloc (.cells (opC kd at' a b t l).toArray 32)))(hF:∀W W',Fr [] W W'->(P0 W->P0 W')∧(P1 W->P1 W'))(hC:∀W,P0 W∨P1 W∨P2 W->(W.cell? (Ad ob 0)=some (.i kd)∧W.cell? (Ad ob 2)=some (.i a)∧W.cell? (Ad ob 3)=some (.i b)∧W.cell? (Ad ob 4)=some (.t t))∧W.cell? (Ad db 0)=some (.p xb)∧W.cell? (Ad db 1)=some (.p rb))
 (hp:∀W,P0 W->Rc f (args xb) W v λw'=>P1 w')(hq:∀W,P1 W->Rc g (args rb) W v λw'=>P2 w'):
 Rc 35 #[.p wb,.p db,.agg (opC kd at' a b t l).toArray] w (.bool true) λw'=>P2 w':=by
 have HF:=Hd hF;have HC:=Hd hC;obtain⟨W1,hW1⟩:=eX (w.alloc (.cells (opC kd at' a b t l).toArray 32));rw[hW1]at h0;obtain⟨⟨k0,k2,k3,k4⟩,k5,k6⟩:=hC W1 (Or.inl h0);have H0:=Hd h0;unfold opC at hW1⊢;clear hF hC h0;rcases hk with⟨z,rfl,rfl,rfl,rfl,rfl⟩|⟨u,z,rfl,rfl,rfl,rfl,rfl⟩|⟨u,z,rfl,rfl,rfl,rfl,rfl⟩|⟨u,z,rfl,rfl,rfl,rfl,rfl⟩|⟨z,rfl,rfl,rfl,rfl,rfl⟩|⟨z,rfl,rfl,rfl,rfl,rfl⟩|⟨z,rfl,rfl,rfl,rfl,rfl⟩|⟨z,rfl,rfl,rfl,rfl,rfl⟩;all_goals
  dsimp only at hp hq;have HP:=Hd λW h=>hp W h;have HQ:=Hd λW h=>hq W h;clear hp hq;go_enter Tryz.func35,Tryz.ntmps35;go_wp2;clear hW1 jT;go_region_held3 (λw'=>w'.cell? ⟨ob,2,none⟩=some (.int .i64 a)∧w'.cell? ⟨ob,3,none⟩=some (.int .i64 b)∧w'.cell? ⟨ob,4,none⟩=some (.string t)∧w'.cell? ⟨db,0,none⟩=some (.pointer (some ⟨xb,0,none⟩)))
   (first
     |exact⟨y2,y3,y4,y5⟩
     |go_keep)
   (first|((first|go_at_call 63|go_at_call 28|go_at_call 65|go_at_call 68|go_at_call 70|go_at_call 72|go_at_call 75|go_at_call 77);refine(HP.o _ (by first|exact H0.o|exact(HF.o _ _ fR.drew).1 H0.o|exact(HF.o _ _ (fR.drewN _)).1 H0.o)).mono ?_;rintro e w4 ⟨rfl,p4⟩;have H4:=Hd p4;obtain⟨⟨y0,y2,y3,y4⟩,y5,y6⟩:=HC.o w4 (Or.inr (Or.inl p4));clear p4))
  all_goals
   go_wp2;go_region_held3 (λw'=>w'.cell? ⟨ob,2,none⟩=some (.int .i64 a)∧w'.cell? ⟨ob,3,none⟩=some (.int .i64 b)∧w'.cell? ⟨ob,4,none⟩=some (.string t)∧w'.cell? ⟨db,1,none⟩=some (.pointer (some ⟨rb,0,none⟩)))
    (first
      |exact⟨z2,z3,z4,z6⟩
      |go_keep)
    (first|((first|go_at_call 64|go_at_call 29|go_at_call 66|go_at_call 69|go_at_call 71|go_at_call 73|go_at_call 76|go_at_call 78);refine(HQ.o _ (by first|exact H4.o|exact(HF.o _ _ fR.drew).2 H4.o|exact(HF.o _ _ (fR.drewN _)).2 H4.o)).mono ?_;rintro e w5 ⟨rfl,p5⟩;have H5:=Hd p5;obtain⟨⟨z0,z2,z3,z4⟩,z5,z6⟩:=HC.o w5 (Or.inr (Or.inr p5));clear p5))
   all_goals
    go_wp2;go_ret;exact⟨rfl,H5.o⟩
end
structure mV(m c:Nat)(V:Lw):Prop where
 k4:V.K.length%4=0∧V.M.length%4=0
 kl:V.K.length≤4*c∧V.M.length≤4*c
 k16:(∀x∈V.K,x.2.1≤16)∧∀x∈V.M,x.2.1≤16
 y:∀y∈V.Y,(0≤y.1∧y.1≤m)∧y.2.2.size≤2000000
 yl:V.Y.length≤130*c
 t:∀t∈V.E.T,t.size≤2000000
 tl:V.E.T.length≤c
theorem oC{w:World}{base:Nat}{ao:Option Addr}{n cap:Nat}{l:List Int}(hn:l.length=n)(h:w.ownsRow base 3 1 (.slice ao n cap) n (bV l)):eU w ao l cap:=by
 subst hn;rcases h.2 with⟨h1,h2⟩|⟨g,c,cur,h1,hb,hg,hc,hm,hs,ht⟩
 .exact⟨by omega,λh0=>by omega⟩
 simp only[Value.slice.injEq]at h1;obtain⟨rfl,_,rfl⟩:=h1;refine⟨hc,λ_=>⟨g,0,rfl,λi hi=>?_⟩⟩;have e:(bV l)[i]?=some (.i (tm l i)):=by simp[bV,tm,hi]
 rw[eV,cell_of hg,<-e,<-ht,eQ (by omega),fw]
section
variable {L:Ly}{A C A' C':Nt}{n n' B:Nat}{X X':Nat->Option Row}{w0 W W' w:World}{i j ob:Nat}{v:Value}{y:Row}{V V':Lw}{xs:List Value}{t:TypeId}{r':ak}{G F:List Nat}{Λ:Lm}
theorem pJ{gg k sz base:Nat}(h:W.heap[gg]?=some (.cells xs.toArray t (0,0)))(hl:xs.length=k*sz)(hk:k≤100000000)(hb:base≤gg):W.ownsRow base t sz (.slice (some (Ad gg 0)) k k) k xs:=
 ⟨hl,Or.inr ⟨gg,k,xs.toArray,rfl,hb,h,eh _,by unfold maxLen;omega,by simpa using hl,by simp[<-hl]⟩⟩
theorem iJ.look(h:iJ L A n j G W)(hj:j≤L.m):∃F,Sk (L.p j).B W (L.p j).b F (A.r j) n∧∀W',Sk (L.p j).B W' (L.p j).b F (A.r j) n->Gw F F W W'->iJ L A n j G W'∧Gw G G W W':=by
 unfold iJ at h⊢;unfold Nt.r;by_cases e:j=0
 .subst e;simp only[if_true]at h⊢;obtain⟨F,h,rfl⟩:=h;exact⟨F,h.sk,λW' k' g'=>⟨⟨F,h.step k' g',rfl⟩,(g'.lift [(L.p 0).xb,(L.p 0).pb]).mU _⟩⟩
 simp only[if_neg e,if_pos hj]at h⊢;obtain⟨F,a,b,c,rfl⟩:=h;exact⟨F,a,λW' k' g'=>⟨⟨F,k',b.step g',c.step g',rfl⟩,(g'.lift [(L.p j).xb]).mU _⟩⟩
theorem iP.look(h:iP L A n j G W)(hj:j≤L.m):∃F,iw (L.r j).B W (L.r j).b F (A.r j) n:=by
 unfold iP at h;unfold Nt.r;by_cases e:j=0
 .subst e;simp only[if_true]at h⊢;obtain⟨F,h,rfl⟩:=h;exact⟨F,h.sk⟩
 rw[if_neg e,if_pos hj]at h;rw[if_neg e];obtain⟨F,a,_⟩:=h;exact⟨F,a⟩
theorem NW.Jz(h:NW L A C n X V w0 W)(hj:j≤L.m)(i:Nat):Cl 21 #[.p (L.p j).b] W λe w'=>∃gg,e=.returned (.slice (some (Ad gg 0)) (A.r j).sh.length (A.r j).sh.length)∧NW L A C n (aO X i (some ⟨.slice (some (Ad gg 0)) (A.r j).sh.length (A.r j).sh.length,84,3,(A.r j).sh.length,dL ((A.r j).sh.map r3)⟩)) V w0 w':=by
 obtain⟨G,h1,h2⟩:=NP.Oe h j i;obtain⟨F,s,hl⟩:=h1.look hj;have YD:=s.2.len.1;refine(qC s).mono ?_;rintro e w' ⟨gg,he,hg,hb,s',g'⟩;obtain⟨n',g9⟩:=hl w' s' g';refine⟨gg,he,h2 A n G w' ⟨_,84,3,_,_⟩ (eh _) (λk hk G W h=>h) g9 n' (pJ hb.2 (by rw[BQ,eI]) (by omega) hg) λk hk hm=>?_⟩;have e:gg=k:=by simpa[Value.ownBlock]using hk
 have:=h1.lt k hm;omega
theorem NW.JA(h:NW L A C n X V w0 W)(hj:j≤L.m)(i:Nat):Cl 25 #[.p (L.p j).b] W λe w'=>∃gg,e=.returned (.slice (some (Ad gg 0)) (A.r j).ms.length (A.r j).ms.length)∧NW L A C n (aO X i (some ⟨.slice (some (Ad gg 0)) (A.r j).ms.length (A.r j).ms.length,3,1,(A.r j).ms.length,bV ((A.r j).ms.map Prod.fst)⟩)) V w0 w':=by
 obtain⟨G,h1,h2⟩:=NP.Oe h j i;obtain⟨F,s,hl⟩:=h1.look hj;have YD:=s.2.len.2.1;refine(Ce s).mono ?_;rintro e w' ⟨gg,he,hg,hb,s',g'⟩;obtain⟨n',g9⟩:=hl w' s' g';refine⟨gg,he,h2 A n G w' ⟨_,3,1,_,_⟩ (eh _) (λk hk G W h=>h) g9 n' (pJ hb.2 (by simp[bV]) (by omega) hg) λk hk hm=>?_⟩;have e:gg=k:=by simpa[Value.ownBlock]using hk
 have:=h1.lt k hm;omega
theorem NW.JB(h:NW L A C n X V w0 W)(hj:j≤L.m)(i:Nat):Cl 22 #[.p (L.r j).b] W λe w'=>∃va vc,e=.returned (.slice va (C.r j).sh.length vc)∧NW L A C n (aO X i (some ⟨.slice va (C.r j).sh.length vc,84,3,(C.r j).sh.length,dL ((C.r j).sh.map r3)⟩)) V w0 w':=by obtain⟨G,h1,_⟩:=NP.ML h j;obtain⟨F,⟨r0,⟨sv,mv,rfl⟩,rp,_⟩,o⟩:=h1.look hj;refine(BI _ _ _ W rp o.len.1).mono ?_;rintro e w' ⟨v,he,ho,f⟩;obtain⟨va,vc,rfl⟩:=ah ho;exact⟨va,vc,he,NP.K4 h f i (y:=⟨_,84,3,_,_⟩) ho⟩
theorem NW.JC(h:NW L A C n X V w0 W)(hj:j≤L.m)(i:Nat):Cl 26 #[.p (L.r j).b] W λe w'=>∃va vc,e=.returned (.slice va (C.r j).ms.length vc)∧NW L A C n (aO X i (some ⟨.slice va (C.r j).ms.length vc,3,1,(C.r j).ms.length,bV ((C.r j).ms.map Prod.fst)⟩)) V w0 w':=by obtain⟨G,h1,_⟩:=NP.ML h j;obtain⟨F,⟨r0,⟨sv,mv,rfl⟩,rp,_⟩,o⟩:=h1.look hj;refine(BH _ _ _ W rp (by have:=o.len.2.1;show(C.r j).ms.length≤_;omega)).mono ?_;rintro e w' ⟨v,he,ho,f⟩;obtain⟨va,vc,rfl⟩:=ah ho;exact⟨va,vc,he,NP.K4 h f i (y:=⟨_,3,1,_,_⟩) ho⟩
theorem LM.keep(h:LM L B V W){kv' mv':Value}{K' M':List (Nat×Nat×Nat)}(wm:WM B W' L.nb V.E kv' mv' K' M')(f:Fr F W W')(ht:∀j∈F,∀cur t,W.heap[j]?=some (.cells cur t (0,0))->t≠68∧t≠71∧t≠79∧t≠54):LM L B {V with kv:=kv',mv:=mv',K:=K',M:=M'} W':=by refine⟨wm,h.e1,h.e2,h.eD,λi hi=>?_,aM h.xo f λj hj cur e=>(ht j hj cur _ e).1 rfl,aM h.yo f λj hj cur e=>(ht j hj cur _ e).2.1 rfl,aM h.wo f λj hj cur e=>(ht j hj cur _ e).2.2.1 rfl⟩;have h9:=h.ds i hi;exact(f.block _ (cY.1 h9).1 λhm=>(ht _ hm _ _ h9).2.2.2 rfl).trans h9
theorem NW.U6(h:NW L A C n X V w0 W){gg k c m:Nat}(hx:X i=some ⟨.slice (some (Ad gg 0)) k k,84,3,k,xs⟩)(hk:k≤12)(hV:mV m c V)(hc:c≤1000000):Rc 67 #[.p L.nb,.slice (some (Ad gg 0)) k k] W (.tuple #[]) λw'=>∃V',mV m (c+1) V'∧NW L A C n (aO X i none) V' w0 w':=by
 have hr:=NP.row h hx;have hb:=gF hr;have hl:=h.lm;have hkl:=hV.kl;have hgg:=h.Au hx gg (by simp[Value.ownBlock]);refine(tY _ L.nb V.E V.mv V.kv V.M V.K gg k W hl.wm _ hb (by simpa using hr.1) hk (λx hx e=>hgg (aU.2 (Or.inr (Or.inr (Or.inl ⟨x,hx,e⟩))))) hV.k4.1 (by omega) (av hr (by simp[Value.ownBlock])).1).mono ?_;rintro e w' ⟨he,kv',K',hkl',YE,f',hK',ho'⟩;refine⟨he,_,?_,h.GU hx (V':={V with kv:=kv',K:=K'}) (f'.mono λk hk=>?_) (hl.keep YE f' λj hj cur t e=>?_) λk hk=>?_⟩
 .have h4:=hV.k4;refine⟨⟨by show K'.length%4=0;omega,hV.k4.2⟩,⟨by show K'.length≤_;omega,by show V.M.length≤_;omega⟩,⟨λx hx=>?_,hV.k16.2⟩,hV.y,by have:=hV.yl;show V.Y.length≤_;omega,hV.t,by have:=hV.tl;show V.E.T.length≤_;omega⟩;rcases hK' x hx with h1|h1
  .exact hV.k16.1 x h1
  exact h1.1
 .simp only[ek,gd]at hk;rw[dT];rcases hk with rfl|rfl|hk
  .exact Or.inl (aU.2 (Or.inl rfl))
  .exact Or.inr (by simp[Value.ownBlock])
  exact Or.inl (aU.2 (Or.inr (Or.inl ⟨V.kv,by simp,hk⟩)))
 .simp only[ek,gd]at hj;have ht:t=47∨t=84∨t=85:=by
   rcases hj with rfl|rfl|hj
   .rw[hl.wm.blk]at e;simp at e;exact Or.inl e.2.symm
   .rw[hb]at e;simp at e;exact Or.inr (Or.inl e.2.symm)
   obtain⟨_,cur',e'⟩:=av hl.wm.ko hj;rw[e']at e;simp at e;exact Or.inr (Or.inr e.2.symm)
  rcases ht with r|r|r<;>rw[r]<;>decide
 rcases aU.1 hk with r|⟨v,hv,hk2⟩|⟨x,hx,rfl⟩|r|r
 .exact Or.inl (Or.inl (aU.2 (Or.inl r)))
 .have hv:v=kv'∨v∈[V.E.sv,V.E.tv,V.kv,V.mv,V.E.x3,V.E.x4,V.E.x5]:=by simp only[ek,fy,or_false]at hv⊢;rcases hv with r|r|r|r|r|r|r<;>simp[r]
  rcases hv with rfl|hv
  .rcases ho' k hk2 with h1|h1
   .exact Or.inl (Or.inl (aU.2 (Or.inr (Or.inl ⟨V.kv,by simp,h1⟩))))
   exact Or.inr h1
  exact Or.inl (Or.inl (aU.2 (Or.inr (Or.inl ⟨v,hv,hk2⟩))))
 .rcases hK' x hx with h1|⟨_,h1|h1⟩
  .exact Or.inl (Or.inl (aU.2 (Or.inr (Or.inr (Or.inl ⟨x,h1,rfl⟩)))))
  .exact Or.inl (Or.inr (by simp[Value.ownBlock,h1]))
  exact Or.inr h1
 .exact Or.inl (Or.inl (aU.2 (Or.inr (Or.inr (Or.inr (Or.inl r))))))
 exact Or.inl (Or.inl (aU.2 (Or.inr (Or.inr (Or.inr (Or.inr r))))))
theorem NW.U7(h:NW L A C n X V w0 W){gg k c m:Nat}(hx:X i=some ⟨.slice (some (Ad gg 0)) k k,3,1,k,xs⟩)(hk:k≤12)(hV:mV m c V)(hc:c≤1000000):Rc 79 #[.p L.nb,.slice (some (Ad gg 0)) k k] W (.tuple #[]) λw'=>∃V',mV m (c+1) V'∧NW L A C n (aO X i none) V' w0 w':=by
 have hr:=NP.row h hx;have hb:=gF hr;have hl:=h.lm;have hkl:=hV.kl;have hgg:=h.Au hx gg (by simp[Value.ownBlock]);refine(tX _ L.nb V.E V.kv V.mv V.K V.M gg k W hl.wm _ hb (by simpa using hr.1) hk (λx hx e=>hgg (aU.2 (Or.inr (Or.inr (Or.inr (Or.inl ⟨x,hx,e⟩)))))) hV.k4.2 (by omega) (av hr (by simp[Value.ownBlock])).1).mono ?_;rintro e w' ⟨he,kv',K',hkl',YE,f',hK',ho'⟩;refine⟨he,_,?_,h.GU hx (V':={V with mv:=kv',M:=K'}) (f'.mono λk hk=>?_) (hl.keep YE f' λj hj cur t e=>?_) λk hk=>?_⟩
 .have h4:=hV.k4;refine⟨⟨hV.k4.1,by show K'.length%4=0;omega⟩,⟨by show V.K.length≤_;omega,by show K'.length≤_;omega⟩,⟨hV.k16.1,λx hx=>?_⟩,hV.y,by have:=hV.yl;show V.Y.length≤_;omega,hV.t,by have:=hV.tl;show V.E.T.length≤_;omega⟩;rcases hK' x hx with h1|h1
  .exact hV.k16.2 x h1
  exact h1.1
 .simp only[ek,gd]at hk;rw[dT];rcases hk with rfl|rfl|hk
  .exact Or.inl (aU.2 (Or.inl rfl))
  .exact Or.inr (by simp[Value.ownBlock])
  exact Or.inl (aU.2 (Or.inr (Or.inl ⟨V.mv,by simp,hk⟩)))
 .simp only[ek,gd]at hj;have ht:t=47∨t=3∨t=30:=by
   rcases hj with rfl|rfl|hj
   .rw[hl.wm.blk]at e;simp at e;exact Or.inl e.2.symm
   .rw[hb]at e;simp at e;exact Or.inr (Or.inl e.2.symm)
   obtain⟨_,cur',e'⟩:=av hl.wm.mo hj;rw[e']at e;simp at e;exact Or.inr (Or.inr e.2.symm)
  rcases ht with r|r|r<;>rw[r]<;>decide
 rcases aU.1 hk with r|⟨v,hv,hk2⟩|r|⟨x,hx,rfl⟩|r
 .exact Or.inl (Or.inl (aU.2 (Or.inl r)))
 .have hv:v=kv'∨v∈[V.E.sv,V.E.tv,V.kv,V.mv,V.E.x3,V.E.x4,V.E.x5]:=by simp only[ek,fy,or_false]at hv⊢;rcases hv with r|r|r|r|r|r|r<;>simp[r]
  rcases hv with rfl|hv
  .rcases ho' k hk2 with h1|h1
   .exact Or.inl (Or.inl (aU.2 (Or.inr (Or.inl ⟨V.mv,by simp,h1⟩))))
   exact Or.inr h1
  exact Or.inl (Or.inl (aU.2 (Or.inr (Or.inl ⟨v,hv,hk2⟩))))
 .exact Or.inl (Or.inl (aU.2 (Or.inr (Or.inr (Or.inl r)))))
 .rcases hK' x hx with h1|⟨_,h1|h1⟩
  .exact Or.inl (Or.inl (aU.2 (Or.inr (Or.inr (Or.inr (Or.inl ⟨x,h1,rfl⟩))))))
  .exact Or.inl (Or.inr (by simp[Value.ownBlock,h1]))
  exact Or.inr h1
 exact Or.inl (Or.inl (aU.2 (Or.inr (Or.inr (Or.inr (Or.inr r))))))
end
theorem vC(wb db ob xb rb k f1 f2 f3 f4:Nat)(kd at' a b:Int)(t:cC)(l:Value)(P0 P3:World->Prop)(P1:Nat->World->Prop)(P2:Nat->Option Addr->Nat->World->Prop)(w:World)(jT:w.heap.size=ob)
 (hk:(kd=4∧f1=21∧f2=22∧f3=23∧f4=67)∨(kd=11∧f1=25∧f2=26∧f3=24∧f4=79))
 (h0:P0 (w.alloc (.cells (opC kd at' a b t l).toArray 32)))(hF:∀W W',Fr [] W W'->(P0 W->P0 W')∧(∀g,P1 g W->P1 g W')∧∀g a c,P2 g a c W->P2 g a c W')
 (hC:∀W,P0 W∨(∃g,P1 g W)->W.cell? (Ad ob 0)=some (.i kd)∧W.cell? (Ad db 0)=some (.p xb)∧W.cell? (Ad db 1)=some (.p rb))
 (h1:∀W,P0 W->Cl f1 #[.p xb] W λe w'=>∃gg,e=.returned (.slice (some (Ad gg 0)) k k)∧P1 gg w')
 (h2:∀gg W,P1 gg W->Cl f2 #[.p rb] W λe w'=>∃va vc,e=.returned (.slice va k vc)∧P2 gg va vc w')
 (h3:∀gg va vc W,P2 gg va vc W->Rc f3 #[.slice (some (Ad gg 0)) k k,.slice va k vc] W (.bool true) λw'=>P2 gg va vc w')
 (h4:∀gg va vc W,P2 gg va vc W->Rc f4 #[.p wb,.slice (some (Ad gg 0)) k k] W (.tuple #[]) λw'=>P3 w'):
 Rc 35 #[.p wb,.p db,.agg (opC kd at' a b t l).toArray] w (.bool true) λw'=>P3 w':=by
 have HF:=Hd hF;have HC:=Hd hC;have H1:=Hd λW h=>h1 W h;have H2:=Hd λgg W h=>h2 gg W h;have H3:=Hd λgg va vc W h=>h3 gg va vc W h;have H4:=Hd λgg va vc W h=>h4 gg va vc W h;obtain⟨W1,hW1⟩:=eX (w.alloc (.cells (opC kd at' a b t l).toArray 32));rw[hW1]at h0;obtain⟨k0,k5,k6⟩:=hC W1 (Or.inl h0);have H0:=Hd h0;unfold opC at hW1⊢;clear hF hC h0 h1 h2 h3 h4;rcases hk with⟨rfl,rfl,rfl,rfl,rfl⟩|⟨rfl,rfl,rfl,rfl,rfl⟩;all_goals
  go_enter Tryz.func35,Tryz.ntmps35;go_wp2_with (first
   |((first|go_at_call 67|go_at_call 79);refine(H4.o _ _ _ _ (by first|exact R6.o|exact(HF.o _ _ fR.drew).2.2 _ _ _ R6.o|exact(HF.o _ _ (fR.drewN _)).2.2 _ _ _ R6.o)).mono ?_;rintro e w7 ⟨rfl,p7⟩;have R7:=Hd p7;clear p7)
   |((first|go_at_call 23|go_at_call 24);refine(H3.o _ _ _ _ (by first|exact R5.o|exact(HF.o _ _ fR.drew).2.2 _ _ _ R5.o|exact(HF.o _ _ (fR.drewN _)).2.2 _ _ _ R5.o)).mono ?_;rintro e w6 ⟨rfl,p6⟩;have R6:=Hd p6;clear p6)
   |((first|go_at_call 22|go_at_call 26);refine(H2.o _ _ (by first|exact R4.o|exact(HF.o _ _ fR.drew).2.1 _ R4.o|exact(HF.o _ _ (fR.drewN _)).2.1 _ R4.o)).mono ?_;rintro e w5 ⟨va,vc,rfl,p5⟩;have R5:=Hd p5;clear p5)
   |((first|go_at_call 21|go_at_call 25);refine(H1.o _ (by first|exact H0.o|exact(HF.o _ _ fR.drew).1 H0.o|exact(HF.o _ _ (fR.drewN _)).1 H0.o)).mono ?_;rintro e w4 ⟨gg,rfl,p4⟩;have R4:=Hd p4;obtain⟨y0,y5,y6⟩:=HC.o w4 (Or.inr ⟨_,p4⟩);clear p4))
  go_ret;exact⟨rfl,R7.o⟩
end Go.Proofs.YtjceeemlilnplaaGreatDoor
