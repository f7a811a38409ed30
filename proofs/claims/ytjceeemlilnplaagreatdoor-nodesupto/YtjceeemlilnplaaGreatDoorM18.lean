import Derived.Test.YtjceeemlilnplaaGreatDoorM12
import Derived.Test.YtjceeemlilnplaaGreatDoorM17
import Derived.Test.YtjceeemlilnplaaGreatDoorM11
set_option maxRecDepth 100000
set_option maxHeartbeats 12800000
set_option linter.all false
namespace Go.Proofs.YtjceeemlilnplaaGreatDoor
open Go.RowKit Go.Maps Go.MuLone
def zO(Q:Int->Int->Prop)(P:Nat->Prop)(v:List Ct)(D:List cC)(Bo:List Int):Prop:=∀j(hj:j<v.length),P j->D[j]?=some v[j].x.ba∧∃z,Bo[j]?=some z∧Q v[j].n z
theorem zO.of{Q:Int->Int->Prop}{P P':Nat->Prop}{v:List Ct}{D:List cC}{Bo:List Int}(h:zO Q P v D Bo)(hp:∀j,P' j->P j):zO Q P' v D Bo:=λj hj h'=>h j hj (hp j h')
theorem zO.step{Q:Int->Int->Prop}{P:Nat->Prop}{v:List Ct}{D:List cC}{Bo:List Int}(h:zO Q P v D Bo)(hd:v.length≤D.length)(hb:v.length≤Bo.length)(i:Nat)(x:B4){c z:Int}(hq:Q c z):zO Q (λj=>P j∨i=j) (v.set i ⟨x,c⟩) (D.set i x.ba) (Bo.set i z):=λj hj hp=>by
 have hj':j<v.length:=by rwa[eR]at hj
 rw[List.getElem?_set,List.getElem?_set];simp only[List.getElem_set];by_cases e:i=j
 .subst e;have l1:i<D.length:=by omega
  have l2:i<Bo.length:=by omega
  simp[l1,l2,hq]
 rw[if_neg e,if_neg e];simp only[if_neg e];exact h j hj' (hp.resolve_right e)
theorem zO.fold{Q:Int->Int->Prop}{c z:Int}(hq:Q c z):∀(l:List (Int×B4))(P:Nat->Prop)(v:List Ct)(D:List cC)(Bo:List Int),zO Q P v D Bo->v.length≤D.length->v.length≤Bo.length->zO Q (λj=>P j∨∃o∈l,o.1.toNat=j) (fv c v l) (fD D l) (fB z Bo l)
 |[],P,v,D,Bo,h,_,_=>h.of (λj hj=>hj.elim id (λ⟨o,ho,_⟩=>absurd ho (by simp)))
 |x::r,P,v,D,Bo,h,hd,hb=>by
  have h1:=h.step hd hb x.1.toNat x.2 hq;have ih:=zO.fold hq r _ _ _ _ h1 (by rw[eR,eR];exact hd) (by rw[eR,eR];exact hb);refine ih.of (λj hj=>?_);rcases hj with hj|⟨o,ho,e⟩
  .exact Or.inl (Or.inl hj)
  rcases ek.1 ho with rfl|ho
  .exact Or.inl (Or.inr e)
  exact Or.inr ⟨o,ho,e⟩
theorem uT{nb:Int}{l:List (Int×B4)}(h:iD nb l)(hn:(l.length:Int)=nb):∀d k(hk:k<l.length),l.length-1-k=d->l[k].1=(k:Int)
 |0,k,hk,e=>by have h1:=jd h k (by omega);have h2:=h k hk;omega
 |d+1,k,hk,e=>by have ih:=uT h hn d (k+1) (by omega) (by omega);have h1:=jd h k (by omega);have h2:=h k hk;have h3:=h (k+1) (by omega);rw[dY l k hk]at h3;omega
section
variable {s:aK}{r:ak}{q:Nat}
theorem PV(s:aK)(f:Int)(j:Nat)(hj:j<s.aL.length):(vk s f s.aL.length)[j]'(by rw[sM s f _ (eh _)];exact hj)=s.th f (j:Int):=by unfold vk;rw[List.getElem_append_left (by simpa using hj)];simp
theorem I9{l:List Sn}(h:0<l.length):gy l=(l[l.length-1]).au:=by unfold gy;rw[kO,dp (by omega)];rfl
theorem dK.Uy(h:dK s r q)(h16:∀x∈r.sh,x.wf){f t m:Int}{l:List (Int×B4)}(hf:f=gy s.ss){y:aS}(hy:r.sh[r.sh.length-1]?=some y)(h0:0<s.ss.length)(hg:t∉gls s)(hgr:1≤t∧t≤999999999)(CB:0≤m∧m≤1073741824)(h12:s.ss.length<12){sv lv uU:Value}{tx:cC}(htx:tx.size≤105):
 dK (s.recv f t m l tx sv lv) {r with now:=r.now+2,dat:=fD y.dat l,born:=fB (r.now+1) y.born l,sh:=r.sh++[⟨t,m,0,r.now+2,fD y.dat l,fB (r.now+1) y.born l⟩],sv:=uU} (q+1):=by
 have hym:=eW hy;have Br:=h16 y hym;have Z9:f=y.au:=by
  have e1:=h.at (j:=s.ss.length-1) (by omega);have e2:=h.iQ;rw[hf,I9 h0];have e3:r.sh[s.ss.length-1]'(by omega)=y:=by have:=(df.1 hy).2;simp only[e2]at this;exact this
  rw[e3]at e1;unfold t3 r3 at e1;simp only[Prod.mk.injEq]at e1;exact e1.1
 have hvl:(vk s f s.aL.length).length=s.aL.length:=sM s f _ (eh _);have hbl:=h.bl;have base:∀C,CC s r C->zO (CT C (gls s) s.came (r.now+1)) (λ_=>True) (vk s f s.aL.length) y.dat y.born:=λC cc j hj _=>by
  have hj':j<s.aL.length:=by rw[hvl]at hj;exact hj
  rw[PV s f j hj'];refine⟨by rw[Z9];exact h.th y hym j hj',?_⟩;obtain⟨z,e1,e2⟩:=cc.tb y hym j hj';rw[Z9];exact⟨z,e1,⟨e2.1.1,e2.1.2.1,by have:=e2.1.2.2;omega⟩,e2.2⟩
 have top:∀C,CC s r C->CT C (gls s) s.came (r.now+1) s.came (r.now+1):=λC cc=>⟨⟨h.cm.1.1,gm _,gm _⟩,λg hg=>by have:=cc.rng g hg;omega⟩;have fin:∀C,CC s r C->zO (CT C (gls s) s.came (r.now+1)) (λj=>True∨∃o∈l,o.1.toNat=j) (gL s f l) (fD y.dat l) (fB (r.now+1) y.born l):=λC cc=>zO.fold (top C cc) l _ _ _ _ (base C cc) (by rw[hvl,Br.1];exact hbl.2.2) (by rw[hvl,Br.2];exact hbl.2.2);obtain⟨C0,Ye⟩:=h.cc;have hrl:(gL s f l).length=s.aL.length:=by unfold gL;rw[sN,hvl]
 have h9:=h.come (sv:=sv) (lv:=lv) (uU:=uU) (gL s f l) hrl (fD y.dat l) (fB (r.now+1) y.born l) (r.now+1) ⟨by omega,gm _⟩ (λj hj=>(fin C0 Ye j hj (Or.inl trivial)).1) (λC cc j hj=>(fin C cc j hj (Or.inl trivial)).2) t m hg hgr CB h12 s.taken h.cm.2 84 (tx:=tx) htx;have e5:r.now+1+1=r.now+2:=by omega
 rw[e5]at h9;have key:∀la,la=s.taken->dK (s.recv f t m l tx sv lv) {r with now:=r.now+2,last:=la,dat:=fD y.dat l,born:=fB (r.now+1) y.born l,sh:=r.sh++[⟨t,m,0,r.now+2,fD y.dat l,fB (r.now+1) y.born l⟩],sv:=uU} (q+1):=by rintro la rfl;exact h9
 exact key r.last h.last
theorem dK.Uz(h:dK s r q)(h16:r.dat.length=16)(qj:r.born.length=16){t m:Int}{l:List (Int×B4)}(hl:(l.length:Int)=s.aL.length)(hr:iD (s.aL.length:Int) l)(hg:t∉gls s)(hgr:1≤t∧t≤999999999)(CB:0≤m∧m≤1073741824)(h12:s.ss.length<12){sv lv uU:Value}{tx:cC}(htx:tx.size≤105):
 dK (s.recv 0 t m l tx sv lv) {r with now:=r.now+2,dat:=fD r.dat l,born:=fB (r.now+1) r.born l,sh:=r.sh++[⟨t,m,0,r.now+2,fD r.dat l,fB (r.now+1) r.born l⟩],sv:=uU} (q+1):=by
 have hvl:(vk s 0 s.aL.length).length=s.aL.length:=sM s 0 _ (eh _);have hbl:=h.bl;have base:∀C,zO (CT C (gls s) s.came (r.now+1)) (λ_=>False) (vk s 0 s.aL.length) r.dat r.born:=λC j hj hF=>hF.elim;have top:∀C,CC s r C->CT C (gls s) s.came (r.now+1) s.came (r.now+1):=λC cc=>⟨⟨h.cm.1.1,gm _,gm _⟩,λg hg=>by have:=cc.rng g hg;omega⟩;have fin:∀C,CC s r C->zO (CT C (gls s) s.came (r.now+1)) (λj=>False∨∃o∈l,o.1.toNat=j) (gL s 0 l) (fD r.dat l) (fB (r.now+1) r.born l):=λC cc=>zO.fold (top C cc) l _ _ _ _ (base C) (by rw[hvl,h16];exact hbl.2.2) (by rw[hvl,qj];exact hbl.2.2);obtain⟨C0,Ye⟩:=h.cc;have hrl:(gL s 0 l).length=s.aL.length:=by unfold gL;rw[sN,hvl]
 have cov:∀j,j<(gL s 0 l).length->∃o∈l,o.1.toNat=j:=λj hj=>by
  have hjl:j<l.length:=by omega
  have:=uT hr hl _ j hjl rfl;exact⟨l[j],eE _,by omega⟩
 have h9:=h.come (sv:=sv) (lv:=lv) (uU:=uU) (gL s 0 l) hrl (fD r.dat l) (fB (r.now+1) r.born l) (r.now+1) ⟨by omega,gm _⟩ (λj hj=>(fin C0 Ye j hj (Or.inr (cov j hj))).1) (λC cc j hj=>(fin C cc j hj (Or.inr (cov j hj))).2) t m hg hgr CB h12 s.taken h.cm.2 84 (tx:=tx) htx;have e5:r.now+1+1=r.now+2:=by omega
 rw[e5]at h9;have key:∀la,la=s.taken->dK (s.recv 0 t m l tx sv lv) {r with now:=r.now+2,last:=la,dat:=fD r.dat l,born:=fB (r.now+1) r.born l,sh:=r.sh++[⟨t,m,0,r.now+2,fD r.dat l,fB (r.now+1) r.born l⟩],sv:=uU} (q+1):=by rintro la rfl;exact h9
 exact key r.last h.last
end
end Go.Proofs.YtjceeemlilnplaaGreatDoor
