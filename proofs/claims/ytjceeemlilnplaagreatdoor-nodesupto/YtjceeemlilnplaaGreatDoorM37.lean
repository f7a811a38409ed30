import Derived.Test.YtjceeemlilnplaaGreatDoorM30
import Derived.Test.YtjceeemlilnplaaGreatDoorM36
import Derived.Test.YtjceeemlilnplaaGreatDoorM35
import Derived.Test.YtjceeemlilnplaaGreatDoorM33
set_option maxRecDepth 100000
set_option maxHeartbeats 12800000
set_option linter.all false
namespace Go.Proofs.YtjceeemlilnplaaGreatDoor
open Go.RowKit Go.Maps Go.MuLone
abbrev Ix:=Nat×Nat
abbrev Qs:=Ix->List Nat->World->Prop
structure KU(Q:Qs):Prop where
 off:∀i G E W W',Q i G W->Fr E W W'->(∀k∈G,k∉E)->Q i G W'
 lt:∀i G W,Q i G W->∀k∈G,k<W.heap.size
structure NQ(Q:Qs)(w0 W:World)(fp:Ix->List Nat):Prop where
 ap:∀i j k,k∈fp i->k∈fp j->i=j
 ge:∀i k,k∈fp i->w0.heap.size≤k∧k<W.heap.size
 fr:Fr [] w0 W
 q:∀i,Q i (fp i) W
def GZ(fp:Ix->List Nat)(i:Ix)(G:List Nat):Ix->List Nat:=λj=>if j=i then G else fp j
section
variable {Q Q':Qs}{w0 W W':World}{fp:Ix->List Nat}{i j:Ix}{G R F F':List Nat}
theorem eF:GZ fp i G i=G:=if_pos rfl
theorem gW(h:j≠i):GZ fp i G j=fp j:=if_neg h
theorem NQ.same(hP:KU Q)(h:NQ Q w0 W fp)(f:Fr [] W W'):NQ Q w0 W' fp:=
 ⟨h.ap,λi k hk=>by have:=h.ge i k hk;have:=f.size;omega,h.fr.trans f (by simp),λi=>hP.off i _ [] W W' (h.q i) f (by simp)⟩
theorem NQ.up(h:NQ Q w0 W fp)(hq:∀i G W,Q i G W->Q' i G W):NQ Q' w0 W fp:=⟨h.ap,h.ge,h.fr,λi=>hq i _ _ (h.q i)⟩
theorem NQ.step(hP:KU Q)(hP':KU Q')(h:NQ Q w0 W fp)(g:Gw (fp i) G W W')(hi:Q' i G W')(hq:∀j,j≠i->∀G W,Q j G W->Q' j G W):NQ Q' w0 W' (GZ fp i G):=by
 have hge:∀k∈G,w0.heap.size≤k:=λk hk=>by
  have:=h.fr.size;rcases g.2 k hk with e|e
  .exact(h.ge i k e).1
  omega
 have hne:∀k∈G,∀j,j≠i->k∉fp j:=λk hk j hj hm=>by
  rcases g.2 k hk with e|e
  .exact hj (h.ap j i k hm e)
  have:=(h.ge j k hm).2;omega
 refine⟨λa b k ha hb=>?_,λa k hk=>?_,h.fr.trans g.1 (λk hk=>Or.inr (h.ge i k hk).1),λa=>?_⟩
 .by_cases ea:a=i
  .by_cases eb:b=i
   .rw[ea,eb]
   rw[ea,eF]at ha;rw[gW eb]at hb;exact absurd hb (hne k ha b eb)
  rw[gW ea]at ha;by_cases eb:b=i
  .rw[eb,eF]at hb;exact absurd ha (hne k hb a ea)
  rw[gW eb]at hb;exact h.ap a b k ha hb
 .by_cases ea:a=i
  .rw[ea,eF]at hk;exact⟨hge k hk,hP'.lt i G W' hi k hk⟩
  rw[gW ea]at hk;have h1:=h.ge a k hk;have:=g.1.size;omega
 by_cases ea:a=i
 .rw[ea,eF];exact hi
 rw[gW ea];exact hq a ea _ _ (hP.off a _ _ W W' (h.q a) g.1 (λk hk hm=>ea (h.ap a i k hk hm)))
theorem NQ.put(h:NQ Q w0 W fp)(hg:∀k∈G,(w0.heap.size≤k∧k<W.heap.size)∧∀j,j≠i->k∉fp j)(hi:Q' i G W)(hq:∀j,j≠i->∀G W,Q j G W->Q' j G W):NQ Q' w0 W (GZ fp i G):=by
 refine⟨λa b k ha hb=>?_,λa k hk=>?_,h.fr,λa=>?_⟩
 .by_cases ea:a=i
  .by_cases eb:b=i
   .rw[ea,eb]
   rw[ea,eF]at ha;rw[gW eb]at hb;exact absurd hb ((hg k ha).2 b eb)
  rw[gW ea]at ha;by_cases eb:b=i
  .rw[eb,eF]at hb;exact absurd ha ((hg k hb).2 a ea)
  rw[gW eb]at hb;exact h.ap a b k ha hb
 .by_cases ea:a=i
  .rw[ea,eF]at hk;exact(hg k hk).1
  rw[gW ea]at hk;exact h.ge a k hk
 by_cases ea:a=i
 .rw[ea,eF];exact hi
 rw[gW ea];exact hq a ea _ _ (h.q a)
theorem NQ.step2(hP:KU Q)(hP':KU Q')(h:NQ Q w0 W fp)(g:Gw (fp i) G W W')(hij:j≠i)(hr:∀k∈R,W.heap.size≤k∧k∉G)(hi:Q' i G W')(hj:Q' j R W')(hq:∀a,a≠i->a≠j->∀G W,Q a G W->Q' a G W):NQ Q' w0 W' (GZ (GZ fp i G) j R):=by
 have hQ:∀a,a≠i->∀G W,Q a G W->(λ(a:Ix)G W=>if a=j then G=[]∨Q a G W else Q' a G W) a G W:=λa ha G W hq'=>by
  by_cases e:a=j
  .simp only[e,if_true];rw[e]at hq';exact Or.inr hq'
  simp only[e,if_false];exact hq a ha e G W hq'
 have h1:NQ (λ(a:Ix)G W=>if a=j then G=[]∨Q a G W else Q' a G W) w0 W' (GZ fp i G):=by
  refine h.step hP ⟨λa G E W W' hq' f hn=>?_,λa G W hq' k hk=>?_⟩ g ?_ hQ
  .by_cases e:a=j
   .simp only[e,if_true]at hq'⊢;exact hq'.imp_right λh9=>hP.off j G E W W' h9 f hn
   simp only[e,if_false]at hq'⊢;exact hP'.off a G E W W' hq' f hn
  .by_cases e:a=j
   .simp only[e,if_true]at hq';rcases hq' with rfl|h9
    .simp at hk
    exact hP.lt j G W h9 k hk
   simp only[e,if_false]at hq';exact hP'.lt a G W hq' k hk
  simp only[Ne.symm hij,if_false];exact hi
 refine h1.put (λk hk=>⟨⟨?_,hP'.lt j R W' hj k hk⟩,λa _ hm=>?_⟩) hj (λa ha G W hq'=>by simpa only[ha,if_false]using hq')
 .have:=h.fr.size;have:=(hr k hk).1;omega
 by_cases e:a=i
 .rw[e,eF]at hm;exact(hr k hk).2 hm
 rw[gW e]at hm;have:=(h.ge a k hm).2;have:=(hr k hk).1;omega
section
variable {v:Value}
theorem dD{base base' sz k:Nat}{t:TypeId}{xs:List Value}(h:W.ownsRow base' t sz v k xs)(hb:base≤base'):W.ownsRow base t sz v k xs:=by
 refine⟨h.1,?_⟩;rcases h.2 with h|⟨g,cap,cur,h1,h2,h3⟩
 .exact Or.inl h
 exact Or.inr ⟨g,cap,cur,h1,by omega,h3⟩
theorem dF{base sz k:Nat}{t:TypeId}{xs:List Value}(h:W.ownsRow base t sz v k xs)(f:Fr F W W')(hn:∀k,v.ownBlock=some k->k∉F):W'.ownsRow base t sz v k xs:=aj h λk hk=>f.block k (h.lt k hk).2 (hn k hk)
end
theorem aC.base{B B' b:Nat}{q:Int}{s:aK}(h:aC B W b q s)(hb:B'≤B):aC B' W b q s:=⟨h.blk,h.aL,dD h.ss hb,h.th,dD h.ms hb,dD h.lg hb,eJ hb h.hb,eJ hb h.hvb,eJ hb h.hmb⟩
theorem Gw.mU(g:Gw F F' W W')(R:List Nat):Gw (F++R) (F'++R) W W':=⟨g.1.mono (λk hk=>List.mem_append_left _ hk),λk hk=>by
 rcases dT.1 hk with h|h
 .exact(g.2 k h).imp_left (List.mem_append_left _)
 exact Or.inl (List.mem_append_right _ h)⟩
end
structure Ly where
 p:Nat->Pl
 r:Nat->Pl
 nb:Nat
 d:Nat->Nat
 m:Nat
structure Nt where
 s:Sc
 k:Nat->Rp
def Nt.r(A:Nt)(j:Nat):ak:=if j=0 then A.s.r else(A.k j).r
def Nt.fQ(A:Nt)(j:Nat)(x:Rp):Nt:={A with k:=λi=>if i=j then x else A.k i}
def Nt.dA(A:Nt)(j:Nat)(r:ak):Nt:=if j=0 then{A with s:={A.s with r:=r}}else A.fQ j {A.k j with r:=r}
structure Row where
 v:Value
 t:TypeId
 sz:Nat
 n:Nat
 xs:List Value
def xu(p:Pl)(n:Nat):List Nat:=(Value.slice p.ra n p.rc).ownBlock.toList
def qB(p:Pl)(s:Sc)(n:Nat)(G:List Nat)(W:World):Prop:=∃F,SP p.B p.xb p.pb p.b p.RB p.ra p.rc W F s n∧G=[p.xb,p.pb]++F++xu p s.rs.length
def rF(p:Pl)(s:Sc)(n:Nat)(G:List Nat)(W:World):Prop:=∃F,SR p.B p.xb p.pb p.b p.RB p.ra p.rc W F s n∧G=[p.xb,p.pb]++F++xu p s.rs.length
def AB(p:Pl)(x:Rp)(n:Nat)(G:List Nat)(W:World):Prop:=∃F,Sk p.B W p.b F x.r n∧Bk F W p.xb (kP p.b x p.ra p.rc)∧Rw F W p.RB p.ra x.rs p.rc∧G=[p.xb]++F++xu p x.rs.length
def Ck(p:Pl)(x:Rp)(n:Nat)(G:List Nat)(W:World):Prop:=∃F,iw p.B W p.b F x.r n∧Bk F W p.xb (kR p.b x p.ra p.rc)∧Rw F W p.RB p.ra x.rs p.rc∧G=[p.xb]++F++xu p x.rs.length
def iJ(L:Ly)(A:Nt)(n j:Nat)(G:List Nat)(W:World):Prop:=if j=0 then qB (L.p 0) A.s n G W else if j≤L.m then AB (L.p j) (A.k j) n G W else G=[]
def iP(L:Ly)(A:Nt)(n j:Nat)(G:List Nat)(W:World):Prop:=if j=0 then rF (L.r 0) A.s n G W else if j≤L.m then Ck (L.r j) (A.k j) n G W else G=[]
def JU(B:Nat)(x:Option Row)(G:List Nat)(W:World):Prop:=match x with
 |none=>G=[]
 |some x=>G=x.v.ownBlock.toList∧W.ownsRow B x.t x.sz x.v x.n x.xs
abbrev Lm:=List Nat->World->Prop
structure AA(Λ:Lm):Prop where
 off:∀G E W W',Λ G W->Fr E W W'->(∀k∈G,k∉E)->Λ G W'
 lt:∀G W,Λ G W->∀k∈G,k<W.heap.size
def fJ(L:Ly)(A C:Nt)(n B:Nat)(X:Nat->Option Row)(Λ:Lm):Qs:=λi G W=>
 if i=(0,0)then Λ G W else if i.1=1 then iJ L A n i.2 G W else if i.1=2 then iP L C n i.2 G W else if i.1=3 then JU B (X i.2) G W else G=[]
def NP(L:Ly)(A C:Nt)(n:Nat)(X:Nat->Option Row)(Λ:Lm)(w0 W:World):Prop:=AA Λ∧∃fp,NQ (fJ L A C n w0.heap.size X Λ) w0 W fp
def aO(X:Nat->Option Row)(j:Nat)(x:Option Row):Nat->Option Row:=λi=>if i=j then x else X i
section
variable {L:Ly}{A C A' C':Nt}{n n' B:Nat}{X X':Nat->Option Row}{Λ Ee:Lm}{w0 W W':World}{G E F F':List Nat}{p:Pl}{s s':Sc}{x x':Rp}{O:gq}{j:Nat}{r r':ak}
theorem Bk.off{k:Nat}{o:Obj}(h:Bk F W k o)(f:Fr E W W')(hx:k∉E):Bk F W' k o:=⟨h.1,(f.block k h.lt hx).trans h.2⟩
theorem qB.off(h:qB p s n G W)(f:Fr E W W')(hn:∀k∈G,k∉E):qB p s n G W':=by obtain⟨F,h,rfl⟩:=h;exact⟨F,⟨⟨h.sk.1.fr f λk hk=>hn k (by simp[hk]),h.sk.2⟩,h.blk.off f (hn _ (by simp)),h.pr.off f (hn _ (by simp)),h.ru.fr f λk hk=>hn k (by simp[xu,hk])⟩,rfl⟩
theorem rF.off(h:rF p s n G W)(f:Fr E W W')(hn:∀k∈G,k∉E):rF p s n G W':=by obtain⟨F,h,rfl⟩:=h;exact⟨F,⟨⟨h.sk.1.fr f λk hk=>hn k (by simp[hk]),h.sk.2⟩,h.blk.off f (hn _ (by simp)),h.pr.off f (hn _ (by simp)),h.ru.fr f λk hk=>hn k (by simp[xu,hk])⟩,rfl⟩
theorem AB.off(h:AB p x n G W)(f:Fr E W W')(hn:∀k∈G,k∉E):AB p x n G W':=by obtain⟨F,a,b,c,rfl⟩:=h;exact⟨F,⟨a.1.fr f λk hk=>hn k (by simp[hk]),a.2⟩,b.off f (hn _ (by simp)),c.fr f λk hk=>hn k (by simp[xu,hk]),rfl⟩
theorem Ck.off(h:Ck p x n G W)(f:Fr E W W')(hn:∀k∈G,k∉E):Ck p x n G W':=by obtain⟨F,a,b,c,rfl⟩:=h;exact⟨F,⟨a.1.fr f λk hk=>hn k (by simp[hk]),a.2⟩,b.off f (hn _ (by simp)),c.fr f λk hk=>hn k (by simp[xu,hk]),rfl⟩
theorem Rw.lt{RB rc:Nat}{ra:Option Addr}{rs:List (Int×Int)}(h:Rw F W RB ra rs rc):∀k∈(Value.slice ra rs.length rc).ownBlock.toList,k<W.heap.size:=λk hk=>(h.1.lt k (by simpa using hk)).2
theorem qB.lt(h:qB p s n G W):∀k∈G,k<W.heap.size:=λk hk=>by
 obtain⟨F,h,rfl⟩:=h;simp only[fL,fe,ek,dT]at hk;rcases hk with rfl|rfl|hk|hk
 .exact h.blk.lt
 .exact h.pr.lt
 .exact(h.sk.1.lt k hk).2
 exact h.ru.lt k hk
theorem rF.lt(h:rF p s n G W):∀k∈G,k<W.heap.size:=λk hk=>by
 obtain⟨F,h,rfl⟩:=h;simp only[fL,fe,ek,dT]at hk;rcases hk with rfl|rfl|hk|hk
 .exact h.blk.lt
 .exact h.pr.lt
 .exact(h.sk.1.lt k hk).2
 exact h.ru.lt k hk
theorem AB.lt(h:AB p x n G W):∀k∈G,k<W.heap.size:=λk hk=>by
 obtain⟨F,a,b,c,rfl⟩:=h;simp only[fL,fe,ek,dT]at hk;rcases hk with rfl|hk|hk
 .exact b.lt
 .exact(a.1.lt k hk).2
 exact c.lt k hk
theorem Ck.lt(h:Ck p x n G W):∀k∈G,k<W.heap.size:=λk hk=>by
 obtain⟨F,a,b,c,rfl⟩:=h;simp only[fL,fe,ek,dT]at hk;rcases hk with rfl|hk|hk
 .exact b.lt
 .exact(a.1.lt k hk).2
 exact c.lt k hk
theorem iJ.off(h:iJ L A n j G W)(f:Fr E W W')(hn:∀k∈G,k∉E):iJ L A n j G W':=by
 unfold iJ at h⊢;split
 .rename_i e;rw[if_pos e]at h;exact qB.off h f hn
 rename_i e;rw[if_neg e]at h;split
 .rename_i e;rw[if_pos e]at h;exact AB.off h f hn
 rename_i e;rw[if_neg e]at h;exact h
theorem iP.off(h:iP L A n j G W)(f:Fr E W W')(hn:∀k∈G,k∉E):iP L A n j G W':=by
 unfold iP at h⊢;split
 .rename_i e;rw[if_pos e]at h;exact rF.off h f hn
 rename_i e;rw[if_neg e]at h;split
 .rename_i e;rw[if_pos e]at h;exact Ck.off h f hn
 rename_i e;rw[if_neg e]at h;exact h
theorem iJ.lt(h:iJ L A n j G W):∀k∈G,k<W.heap.size:=by
 unfold iJ at h;split at h
 .exact qB.lt h
 split at h
 .exact AB.lt h
 subst h;simp
theorem iP.lt(h:iP L A n j G W):∀k∈G,k<W.heap.size:=by
 unfold iP at h;split at h
 .exact rF.lt h
 split at h
 .exact Ck.lt h
 subst h;simp
theorem JU.off{x:Option Row}(h:JU B x G W)(f:Fr E W W')(hn:∀k∈G,k∉E):JU B x G W':=by
 cases x with
 |none=>exact h
 |some x=>
  obtain⟨rfl,h⟩:=h;exact⟨rfl,aj h λk hk=>f.block k (h.lt k hk).2 (hn k (by simpa using hk))⟩
theorem JU.lt{x:Option Row}(h:JU B x G W):∀k∈G,k<W.heap.size:=by
 cases x with
 |none=>subst h;simp
 |some x=>
  obtain⟨rfl,h⟩:=h
  exactλk hk=>(h.lt k (by simpa using hk)).2
theorem bQ(h:AA Λ):KU (fJ L A C n B X Λ):=by
 refine⟨λi G E W W' hq f hn=>?_,λi G W hq=>?_⟩
 .unfold fJ at hq⊢;split
  .rename_i e;rw[if_pos e]at hq;exact h.off G E W W' hq f hn
  rename_i e;rw[if_neg e]at hq;split
  .rename_i e;rw[if_pos e]at hq;exact iJ.off hq f hn
  rename_i e;rw[if_neg e]at hq;split
  .rename_i e;rw[if_pos e]at hq;exact iP.off hq f hn
  rename_i e;rw[if_neg e]at hq;split
  .rename_i e;rw[if_pos e]at hq;exact JU.off hq f hn
  rename_i e;rw[if_neg e]at hq;exact hq
 unfold fJ at hq;split at hq
 .exact h.lt G W hq
 split at hq
 .exact iJ.lt hq
 split at hq
 .exact iP.lt hq
 split at hq
 .exact JU.lt hq
 subst hq;simp
theorem NP.same(h:NP L A C n X Λ w0 W)(f:Fr [] W W'):NP L A C n X Λ w0 W':=by obtain⟨h1,fp,h⟩:=h;exact⟨h1,fp,h.same (bQ h1) f⟩
theorem iJ.up(h:iJ L A n j G W)(hk:n≤n'):iJ L A n' j G W:=by
 unfold iJ at h⊢;split
 .rename_i e;rw[if_pos e]at h;obtain⟨F,h,e⟩:=h;exact⟨F,h.up hk,e⟩
 rename_i e;rw[if_neg e]at h;split
 .rename_i e;rw[if_pos e]at h;obtain⟨F,a,b⟩:=h;exact⟨F,a.le hk,b⟩
 rename_i e;rw[if_neg e]at h;exact h
theorem iP.up(h:iP L A n j G W)(hk:n≤n'):iP L A n' j G W:=by
 unfold iP at h⊢;split
 .rename_i e;rw[if_pos e]at h;obtain⟨F,h,e⟩:=h;exact⟨F,h.up hk,e⟩
 rename_i e;rw[if_neg e]at h;split
 .rename_i e;rw[if_pos e]at h;obtain⟨F,a,b⟩:=h;exact⟨F,a.le hk,b⟩
 rename_i e;rw[if_neg e]at h;exact h
theorem wh(hk:n≤n')(i:Ix)(h:fJ L A C n B X Λ i G W):fJ L A C n' B X Λ i G W:=by
 unfold fJ at h⊢;split
 .rename_i e;rw[if_pos e]at h;exact h
 rename_i e;rw[if_neg e]at h;split
 .rename_i e;rw[if_pos e]at h;exact iJ.up h hk
 rename_i e;rw[if_neg e]at h;split
 .rename_i e;rw[if_pos e]at h;exact iP.up h hk
 rename_i e;rw[if_neg e]at h;exact h
theorem NP.up(h:NP L A C n X Λ w0 W)(hk:n≤n'):NP L A C n' X Λ w0 W:=by obtain⟨h1,fp,h⟩:=h;exact⟨h1,fp,h.up λi G W hq=>wh hk i hq⟩
theorem rJ:fJ L A C n B X Λ (1,j) G W=iJ L A n j G W:=by simp[fJ]
theorem rH:fJ L A C n B X Λ (2,j) G W=iP L C n j G W:=by simp[fJ]
theorem lQ:fJ L A C n B X Λ (3,j) G W=JU B (X j) G W:=by simp[fJ]
theorem yI:fJ L A C n B X Λ (0,0) G W=Λ G W:=by simp[fJ]
theorem wu{i:Ix}(hi:i≠(1,j))(hk:n≤n')(hA:∀k,k≠j->∀G W,iJ L A n' k G W->iJ L A' n' k G W)(h:fJ L A C n B X Λ i G W):fJ L A' C n' B X Λ i G W:=by
 have h:=wh hk i h;unfold fJ at h⊢;split
 .rename_i e;rw[if_pos e]at h;exact h
 rename_i e;rw[if_neg e]at h;split
 .rename_i e;rw[if_pos e]at h;exact hA i.2 (λe2=>hi (Prod.ext e e2)) _ _ h
 rename_i e;rw[if_neg e]at h;exact h
theorem wz{i:Ix}(hi:i≠(2,j))(hk:n≤n')(hC:∀k,k≠j->∀G W,iP L C n' k G W->iP L C' n' k G W)(h:fJ L A C n B X Λ i G W):fJ L A C' n' B X Λ i G W:=by
 have h:=wh hk i h;unfold fJ at h⊢;split
 .rename_i e;rw[if_pos e]at h;exact h
 rename_i e;rw[if_neg e]at h;split
 .rename_i e;rw[if_pos e]at h;exact h
 rename_i e;rw[if_neg e]at h;split
 .rename_i e;rw[if_pos e]at h;exact hC i.2 (λe2=>hi (Prod.ext e e2)) _ _ h
 rename_i e;rw[if_neg e]at h;exact h
theorem jW{i:Ix}(hi:i≠(3,j)){y:Option Row}(h:fJ L A C n B X Λ i G W):fJ L A C n B (aO X j y) Λ i G W:=by
 unfold fJ at h⊢;split
 .rename_i e;rw[if_pos e]at h;exact h
 rename_i e;rw[if_neg e]at h;split
 .rename_i e;rw[if_pos e]at h;exact h
 rename_i e;rw[if_neg e]at h;split
 .rename_i e;rw[if_pos e]at h;exact h
 rename_i e;rw[if_neg e]at h;split
 .rename_i e;rw[if_pos e]at h;unfold aO;rw[if_neg (λe2=>hi (Prod.ext e e2))];exact h
 rename_i e;rw[if_neg e]at h;exact h
theorem rQ{i:Ix}(hi:i≠(0,0))(h:fJ L A C n B X Λ i G W):fJ L A C n B X Ee i G W:=by unfold fJ at h⊢;rw[if_neg hi]at h⊢;exact h
end
end Go.Proofs.YtjceeemlilnplaaGreatDoor
