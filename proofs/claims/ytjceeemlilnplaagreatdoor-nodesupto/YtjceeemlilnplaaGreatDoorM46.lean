import Derived.Test.YtjceeemlilnplaaGreatDoorM39
import Derived.Test.YtjceeemlilnplaaGreatDoorM40
set_option maxRecDepth 100000
set_option maxHeartbeats 12800000
set_option linter.all false
namespace Go.Proofs.YtjceeemlilnplaaGreatDoor
open Go.RowKit Go.Maps Go.MuLone
section
variable {L:Ly}{A C A' C':Nt}{n n' B m c:Nat}{X X':Nat->Option Row}{w0 W W' w w9:World}{i j ob:Nat}{v v':Value}{y:Row}{V V':Lw}{xs:List Value}{r r':ak}{G F:List Nat}{K:Int}{at' a b:Int}{t:cC}{l:Value}
theorem Nt.jg:A.dA j (A.r j)=A:=by
 unfold Nt.dA Nt.r Nt.fQ;by_cases e:j=0
 .simp only[e,if_true]
 simp only[if_neg e];have:(λi=>if i=j then{A.k j with r:=(A.k j).r}else A.k i)=A.k:=by
  funext i;split
  .rename_i h;rw[h]
  rfl
 rw[this]
theorem LM.Va{E':We}{Y':List (Int×Int×cC)}(h:LM L B V W)(f:Fr F W W')(ht:∀j∈F,∀cur t,W.heap[j]?=some (.cells cur t (0,0))->t=47∨t=9∨t=79)(blk:W'.heap[L.nb]?=some (.cells #[E'.sv,E'.tv,V.kv,V.mv,E'.x1,E'.x2,E'.x3,E'.x4,E'.x5] 47 (0,0)))(e:(E'.sv=V.E.sv∧E'.D=V.E.D)∧E'.x1=V.E.x1∧E'.x2=V.E.x2∧E'.x3=V.E.x3∧E'.x4=V.E.x4)(tO:W'.ownsRow B 9 1 E'.tv E'.T.length (E'.T.map Value.string))(wo:W'.ownsRow B 79 3 E'.x5 Y'.length (fO Y')):LM L B {V with E:=E',Y:=Y'} W':=by
 have hn:∀t:TypeId,t≠47->t≠9->t≠79->∀j∈F,∀cur,W.heap[j]?≠some (.cells cur t (0,0)):=λt h1 h2 h3 j hj cur e=>by
  rcases ht j hj cur t e with r|r|r
  .exact h1 r
  .exact h2 r
  exact h3 r
 refine⟨⟨blk,?_,aM h.wm.ko f (hn 85 (by decide) (by decide) (by decide)),aM h.wm.mo f (hn 30 (by decide) (by decide) (by decide)),λi x hx=>⟨(h.wm.kk i x hx).1,(h.wm.kk i x hx).2.fr f (hn 84 (by decide) (by decide) (by decide))⟩,λi x hx=>⟨(h.wm.mi i x hx).1,(h.wm.mi i x hx).2.fr f (hn 3 (by decide) (by decide) (by decide))⟩,h.wm.hw,tO⟩,e.2.1.trans h.e1,e.2.2.1.trans h.e2,e.1.2.trans h.eD,λi hi=>?_,?_,?_,wo⟩
 .have:=aM h.wm.so f (hn 55 (by decide) (by decide) (by decide));show W'.ownsRow B 55 1 E'.sv E'.D.length _;rw[e.1.1,e.1.2];exact this
 .have h9:=h.ds i hi;exact(f.block _ (cY.1 h9).1 λhm=>hn 54 (by decide) (by decide) (by decide) _ hm _ h9).trans h9
 .show W'.ownsRow B 68 1 E'.x3 _ _;rw[e.2.2.2.1];exact aM h.xo f (hn 68 (by decide) (by decide) (by decide))
 show W'.ownsRow B 71 1 E'.x4 _ _;rw[e.2.2.2.2];exact aM h.yo f (hn 71 (by decide) (by decide) (by decide))
theorem NW.wE{T':List cC}(h:NW L A C n X V w0 W)(f:Fr V.E.tv.ownBlock.toList W w9)(ho:w9.ownsRow w0.heap.size 9 1 v' T'.length (T'.map Value.string))(hv:∀k,v'.ownBlock=some k->V.E.tv.ownBlock=some k∨W.heap.size≤k):NW L A C n X {V with E:={V.E with tv:=v',T:=T'}} w0 (w9.setCell (Ad L.nb 1) v')∧w9.cell? (Ad L.nb 1)=some V.E.tv∧w9.frozen? (Ad L.nb 1)=false:=by
 have hl:=h.lm;have ht:∀j∈V.E.tv.ownBlock.toList,∃cur,W.heap[j]?=some (.cells cur 9 (0,0)):=λj hj=>(av hl.wm.to (by simpa using hj)).2;have hnF:L.nb∉V.E.tv.ownBlock.toList:=λhm=>by obtain⟨cur,e⟩:=ht _ hm;rw[hl.wm.blk]at e;simp at e
 have b9:=(f.block _ (cY.1 hl.wm.blk).1 hnF).trans hl.wm.blk;have f2:Fr (L.nb::V.E.tv.ownBlock.toList) W (w9.setCell (Ad L.nb 1) v'):=(f.mono λk hk=>j9 _ hk).setCell _ (Or.inl (by simp));have hset:∀{e:TypeId}{sz k:Nat}{u:Value}{xs:List Value},e≠47->w9.ownsRow w0.heap.size e sz u k xs->(w9.setCell (Ad L.nb 1) v').ownsRow w0.heap.size e sz u k xs:=λ{e sz k u xs}he ho=>aj ho λj hj=>de _ _ _ _ λe9=>by obtain⟨_,cur,h4⟩:=av ho hj;rw[e9,b9]at h4;simp at h4;exact he h4.2.symm
 refine⟨h.law (f2.mono λk hk=>?_) (hl.Va (E':={V.E with tv:=v',T:=T'}) (Y':=V.Y) f2 (λj hj cur t e=>?_) (by rw[dy _ _ _ _ _ _ b9];rfl) ⟨⟨rfl,rfl⟩,rfl,rfl,rfl,rfl⟩ (hset (by decide) ho) (hset (by decide) (aM hl.wo f λj hj cur e=>?_))) (λk hk=>?_),ce b9 rfl,ay b9 _⟩
 .rcases ek.1 hk with rfl|hk
  .exact aU.2 (Or.inl rfl)
  exact aU.2 (Or.inr (Or.inl ⟨V.E.tv,by simp,by simpa using hk⟩))
 .rcases ek.1 hj with rfl|hj
  .rw[hl.wm.blk]at e;simp at e;exact Or.inl e.2.symm
  obtain⟨cur',e'⟩:=ht j hj;rw[e']at e;simp at e;exact Or.inr (Or.inl e.2.symm)
 .obtain⟨cur',e'⟩:=ht j hj;rw[e']at e;simp at e
 rcases aU.1 hk with r|⟨u,hu,hk2⟩|r
 .exact Or.inl (aU.2 (Or.inl r))
 .have hu:u=v'∨u∈[V.E.sv,V.E.tv,V.kv,V.mv,V.E.x3,V.E.x4,V.E.x5]:=by simp only[ek,fy,or_false]at hu⊢;rcases hu with r|r|r|r|r|r|r<;>simp[r]
  rcases hu with e|hu
  .rw[e]at hk2;exact(hv k hk2).imp_left λh9=>aU.2 (Or.inr (Or.inl ⟨V.E.tv,by simp,h9⟩))
  exact Or.inl (aU.2 (Or.inr (Or.inl ⟨u,hu,hk2⟩)))
 exact Or.inl (aU.2 (Or.inr (Or.inr r)))
theorem NW.Od{Y':List (Int×Int×cC)}(h:NW L A C n X V w0 W)(f:Fr V.E.x5.ownBlock.toList W w9)(ho:w9.ownsRow w0.heap.size 79 3 v' Y'.length (fO Y'))(hv:∀k,v'.ownBlock=some k->V.E.x5.ownBlock=some k∨W.heap.size≤k):NW L A C n X {V with E:={V.E with x5:=v'},Y:=Y'} w0 (w9.setCell (Ad L.nb 8) v')∧w9.cell? (Ad L.nb 8)=some V.E.x5∧w9.frozen? (Ad L.nb 8)=false:=by
 have hl:=h.lm;have ht:∀j∈V.E.x5.ownBlock.toList,∃cur,W.heap[j]?=some (.cells cur 79 (0,0)):=λj hj=>(av hl.wo (by simpa using hj)).2;have hnF:L.nb∉V.E.x5.ownBlock.toList:=λhm=>by obtain⟨cur,e⟩:=ht _ hm;rw[hl.wm.blk]at e;simp at e
 have b9:=(f.block _ (cY.1 hl.wm.blk).1 hnF).trans hl.wm.blk;have f2:Fr (L.nb::V.E.x5.ownBlock.toList) W (w9.setCell (Ad L.nb 8) v'):=(f.mono λk hk=>j9 _ hk).setCell _ (Or.inl (by simp));have hset:∀{e:TypeId}{sz k:Nat}{u:Value}{xs:List Value},e≠47->w9.ownsRow w0.heap.size e sz u k xs->(w9.setCell (Ad L.nb 8) v').ownsRow w0.heap.size e sz u k xs:=λ{e sz k u xs}he ho=>aj ho λj hj=>de _ _ _ _ λe9=>by obtain⟨_,cur,h4⟩:=av ho hj;rw[e9,b9]at h4;simp at h4;exact he h4.2.symm
 refine⟨h.law (f2.mono λk hk=>?_) (hl.Va (E':={V.E with x5:=v'}) (Y':=Y') f2 (λj hj cur t e=>?_) (by rw[dy _ _ _ _ _ _ b9];rfl) ⟨⟨rfl,rfl⟩,rfl,rfl,rfl,rfl⟩ (hset (by decide) (aM hl.wm.to f λj hj cur e=>?_)) (hset (by decide) ho)) (λk hk=>?_),ce b9 rfl,ay b9 _⟩
 .rcases ek.1 hk with rfl|hk
  .exact aU.2 (Or.inl rfl)
  exact aU.2 (Or.inr (Or.inl ⟨V.E.x5,by simp,by simpa using hk⟩))
 .rcases ek.1 hj with rfl|hj
  .rw[hl.wm.blk]at e;simp at e;exact Or.inl e.2.symm
  obtain⟨cur',e'⟩:=ht j hj;rw[e']at e;simp at e;exact Or.inr (Or.inr e.2.symm)
 .obtain⟨cur',e'⟩:=ht j hj;rw[e']at e;simp at e
 rcases aU.1 hk with r|⟨u,hu,hk2⟩|r
 .exact Or.inl (aU.2 (Or.inl r))
 .have hu:u=v'∨u∈[V.E.sv,V.E.tv,V.kv,V.mv,V.E.x3,V.E.x4,V.E.x5]:=by simp only[ek,fy,or_false]at hu⊢;rcases hu with r|r|r|r|r|r|r<;>simp[r]
  rcases hu with e|hu
  .rw[e]at hk2;exact(hv k hk2).imp_left λh9=>aU.2 (Or.inr (Or.inl ⟨V.E.x5,by simp,h9⟩))
  exact Or.inl (aU.2 (Or.inr (Or.inl ⟨u,hu,hk2⟩)))
 exact Or.inl (aU.2 (Or.inr (Or.inr r)))
theorem NW.cells(h:NW L A C n X V w0 W):(W.cell? (Ad L.nb 0)=some V.E.sv∧W.cell? (Ad L.nb 1)=some V.E.tv∧W.cell? (Ad L.nb 4)=some (.p (L.p 0).xb)∧W.cell? (Ad L.nb 5)=some (.p (L.r 0).xb)∧W.cell? (Ad L.nb 6)=some V.E.x3∧W.cell? (Ad L.nb 7)=some V.E.x4∧W.cell? (Ad L.nb 8)=some V.E.x5)∧W.frozen? (Ad L.nb 1)=false∧W.frozen? (Ad L.nb 8)=false∧L.nb<W.heap.size∧w0.heap.size≤W.heap.size:=by
 have hl:=h.lm;have hb:=hl.wm.blk;refine⟨⟨?_,?_,?_,?_,?_,?_,?_⟩,ay hb _,ay hb _,(cY.1 hb).1,h.OQ.size⟩<;>rw[cell_of hb]
 .rfl
 .rfl
 .rw[<-hl.e1];rfl
 .rw[<-hl.e2];rfl
 .rfl
 .rfl
 rfl
theorem jV{u:Value}{o:Obj}(hg:(W.alloc o).grownBy w9 u.ownBlock):Fr u.ownBlock.toList W w9:=(fR.alloc _).grown hg λk hk=>Or.inl (by simp[hk])
end
section
variable {L:Ly}{A C A' C':Nt}{n n' m c:Nat}{X X':Nat->Option Row}{w0 W W':World}{V V':Lw}{ls:List (Int×cC)}{va:Option Addr}{vc f:Nat}{args:Array Value}{p:Pl}{s s':Sc}{G:List Nat}{O:gq}{i j:Nat}{x x':Rp}{v:Value}
theorem qB.po(hc:∀F,PG p W F s n W->Cl f args W λe w'=>∃v,e=.returned v∧PO p W F s' n' v ls w')(h:qB p s n G W)(hrs:s'.rs=s.rs):Cl f args W λe w'=>∃va vc,e=.returned (.slice va ls.length vc)∧∃G',qB p s' n' G' w'∧Gw G G' W w'∧w'.ownsRow W.heap.size 186 2 (.slice va ls.length vc) ls.length (iO ls)∧∀k,(Value.slice va ls.length vc).ownBlock=some k->k∉G':=by
 obtain⟨F,h,rfl⟩:=h;refine(hc F ⟨F,h,Gw.refl _ _⟩).mono ?_;rintro e w' ⟨v,he,F',h',g',o⟩;obtain⟨va,vc,rfl⟩:=ah o.1;refine⟨va,vc,he,_,⟨F',h',rfl⟩,by rw[hrs];exact g'.mU _,o.1,λk hk hm=>?_⟩;have hge:=(av o.1 hk).1;simp only[fL,fe,ek,dT]at hm;rcases hm with e|e|e|e
 .have:=h.blk.lt;omega
 .have:=h.pr.lt;omega
 .exact o.2 k hk e
 have:=h.ru.lt k (by rw[hrs]at e;exact e);omega
theorem rF.po(hc:∀F,RG p W F s n W->Cl f args W λe w'=>∃v,e=.returned v∧RO p W F s' n' v ls w')(h:rF p s n G W)(hrs:s'.rs=s.rs):Cl f args W λe w'=>∃va vc,e=.returned (.slice va ls.length vc)∧∃G',rF p s' n' G' w'∧Gw G G' W w'∧w'.ownsRow W.heap.size 186 2 (.slice va ls.length vc) ls.length (iO ls)∧∀k,(Value.slice va ls.length vc).ownBlock=some k->k∉G':=by
 obtain⟨F,h,rfl⟩:=h;refine(hc F ⟨F,h,Gw.refl _ _⟩).mono ?_;rintro e w' ⟨v,he,F',h',g',o⟩;obtain⟨va,vc,rfl⟩:=ah o.1;refine⟨va,vc,he,_,⟨F',h',rfl⟩,by rw[hrs];exact g'.mU _,o.1,λk hk hm=>?_⟩;have hge:=(av o.1 hk).1;simp only[fL,fe,ek,dT]at hm;rcases hm with e|e|e|e
 .have:=h.blk.lt;omega
 .have:=h.pr.lt;omega
 .exact o.2 k hk e
 have:=h.ru.lt k (by rw[hrs]at e;exact e);omega
theorem iJ.src(h:iJ L A n 0 G W):qB (L.p 0) A.s n G W:=h
theorem iP.src(h:iP L A n 0 G W):rF (L.r 0) A.s n G W:=h
theorem NW.SC(h:NW L A C n X V w0 W)(i:Nat)(hn:n≤n')(hrs:s'.rs=A.s.rs)(hc:∀F,PG (L.p 0) W F A.s n W->Cl f args W λe w'=>∃v,e=.returned v∧PO (L.p 0) W F s' n' v ls w'):Cl f args W λe w'=>∃va vc,e=.returned (.slice va ls.length vc)∧NW L {A with s:=s'} C n' (aO X i (some ⟨.slice va ls.length vc,186,2,ls.length,iO ls⟩)) V w0 w':=by obtain⟨G,h1,h2⟩:=NP.Oe h 0 i;refine(qB.po hc h1.src hrs).mono ?_;rintro e w' ⟨va,vc,he,G',k',g',o,hk⟩;refine⟨va,vc,he,h2 {A with s:=s'} n' G' w' ⟨_,186,2,_,_⟩ hn (λk hk0 G W h=>?_) g' k' o hk⟩;unfold iJ at h⊢;rw[if_neg hk0]at h⊢;exact h
theorem NW.SE(h:NW L A C n X V w0 W)(i:Nat)(hn:n≤n')(hrs:s'.rs=C.s.rs)(hc:∀F,RG (L.r 0) W F C.s n W->Cl f args W λe w'=>∃v,e=.returned v∧RO (L.r 0) W F s' n' v ls w'):Cl f args W λe w'=>∃va vc,e=.returned (.slice va ls.length vc)∧NW L A {C with s:=s'} n' (aO X i (some ⟨.slice va ls.length vc,186,2,ls.length,iO ls⟩)) V w0 w':=by obtain⟨G,h1,h2⟩:=NP.WG h 0 i;refine(rF.po hc h1.src hrs).mono ?_;rintro e w' ⟨va,vc,he,G',k',g',o,hk⟩;refine⟨va,vc,he,h2 {C with s:=s'} n' G' w' ⟨_,186,2,_,_⟩ hn (λk hk0 G W h=>?_) g' k' o hk⟩;unfold iP at h⊢;rw[if_neg hk0]at h⊢;exact h
theorem NW.WC(h:NW L A C n X V w0 W)(hj:1≤j∧j≤L.m)(hn:n≤n')(hrs:x'.rs=(A.k j).rs)(hc:∀F,KG (L.p j) W F (A.k j) n W->Rc f args W v λw'=>KG (L.p j) W F x' n' w'):Rc f args W v λw'=>NW L (A.fQ j x') C n' X V w0 w':=by
 obtain⟨G,h1,h2⟩:=NP.SH h j;have hj0:j≠0:=by omega
 unfold iJ at h1;rw[if_neg hj0,if_pos hj.2]at h1;obtain⟨F,a,b,c,rfl⟩:=h1;refine(hc F ⟨F,a,b,c,Gw.refl _ _⟩).mono ?_;rintro e w' ⟨he,F',a',b',c',g'⟩;refine⟨he,h2 (A.fQ j x') n' ([(L.p j).xb]++F'++xu (L.p j) x'.rs.length) w' hn (λk hk G W h=>?_) (by rw[hrs];exact(g'.lift [(L.p j).xb]).mU _) ?_⟩
 .unfold iJ Nt.fQ at*;by_cases e0:k=0
  .simpa only[e0,if_true]using h
  simpa only[if_neg e0,if_neg hk]using h
 unfold iJ Nt.fQ;rw[if_neg hj0,if_pos hj.2];simp only[if_true];exact⟨F',a',b',c',rfl⟩
theorem NW.WE(h:NW L A C n X V w0 W)(hj:1≤j∧j≤L.m)(hn:n≤n')(hrs:x'.rs=(C.k j).rs)(hc:∀F,KH (L.r j) W F (C.k j) n W->Rc f args W v λw'=>KH (L.r j) W F x' n' w'):Rc f args W v λw'=>NW L A (C.fQ j x') n' X V w0 w':=by
 obtain⟨G,h1,h2⟩:=NP.ML h j;have hj0:j≠0:=by omega
 unfold iP at h1;rw[if_neg hj0,if_pos hj.2]at h1;obtain⟨F,a,b,c,rfl⟩:=h1;refine(hc F ⟨F,a,b,c,Gw.refl _ _⟩).mono ?_;rintro e w' ⟨he,F',a',b',c',g'⟩;refine⟨he,h2 (C.fQ j x') n' ([(L.r j).xb]++F'++xu (L.r j) x'.rs.length) w' hn (λk hk G W h=>?_) (by rw[hrs];exact(g'.lift [(L.r j).xb]).mU _) ?_⟩
 .unfold iP Nt.fQ at*;by_cases e0:k=0
  .simpa only[e0,if_true]using h
  simpa only[if_neg e0,if_neg hk]using h
 unfold iP Nt.fQ;rw[if_neg hj0,if_pos hj.2];simp only[if_true];exact⟨F',a',b',c',rfl⟩
end
end Go.Proofs.YtjceeemlilnplaaGreatDoor
