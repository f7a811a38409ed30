import Derived.Test.YtjceeemlilnplaaGreatDoorM08
import Derived.Test.YtjceeemlilnplaaGreatDoorM11
import Derived.Test.YtjceeemlilnplaaGreatDoorM05
import Derived.ArgAppend
import Derived.Maps.AppendAt
import Derived.Deep.QuietTactic
import Derived.BigQuiet
set_option maxRecDepth 100000
set_option maxHeartbeats 12800000
set_option linter.all false
namespace Go.Proofs.YtjceeemlilnplaaGreatDoor
open Go.RowKit Go.Maps Go.MuLone
theorem jf(c:UInt8)(t:cC):(entry c t).length=t.size+2:=by simp[entry]
section
variable {s s':aK}{r r':ak}{q:Nat}{C:Int->Int×Int}
theorem dK.write(h:dK s r q)(h16:r.dat.length=16)(qj:r.born.length=16){k:Nat}(hk:k<s.aL.length)(x:B4){t:cC}{lv:Value}(ht:t.size≤50):dK ((s.write k x).noted 87 t lv) (r.write k x.ba) (q+1):=by
 obtain⟨C,cc⟩:=h.cc;have hlen:∀{j:Nat},j<((s.write k x).noted 87 t lv).aL.length->j<s.aL.length:=λ{j}hj=>by have:j<(s.aL.set k ⟨x,s.came⟩).length:=hj;rwa[eR]at this
 have hup:∀{n z:Int},CT C (gls s) s.came r.now n z->CT C (gls s) s.came (r.now+1) n z:=λh=>⟨⟨h.1.1,h.1.2.1,by have:=h.1.2.2;omega⟩,h.2⟩;refine⟨h.id,⟨by show r.blocks=(s.aL.set k _).length;rw[eR];exact h.bl.1,by show 1≤(s.aL.set k _).length;rw[eR];exact h.bl.2.1,by show(s.aL.set k _).length≤16;rw[eR];exact h.bl.2.2⟩,?_,h.last,⟨⟨h.cm.1.1,by have:=h.cm.1.2;show s.came≤_;omega⟩,h.cm.2⟩,h.ss,h.ms,?_,h.len,h.nd,h.Qc,h.mp,h.gr,h.tr,h.ho,⟨C,⟨cc.ps,cc.pm,cc.rs,cc.rm,λg hg=>?_,cc.ord,cc.inj,λj hj=>?_,λy hy j hj=>?_⟩⟩,⟨by have:=h.rn.1;show 0≤r.now+1;omega,by have:=h.rn.2;show r.now+1≤_;omega⟩,?_,by have:=h.cn;show s.cnt≤_;omega⟩
 .intro j hj;have hj2:j<(s.aL.set k ⟨x,s.came⟩).length:=hj;show(r.dat.set k x.ba)[j]?=some ((s.aL.set k ⟨x,s.came⟩)[j]'hj2).x.ba;rw[List.getElem?_set,List.getElem_set];by_cases e:k=j
  .subst e;have:=h.bl.2.2;simp only[if_pos];rw[if_pos (by omega)]
  rw[if_neg e,if_neg e];exact h.dat j (hlen hj)
 .intro y hy j hj;exact h.th y hy j (hlen hj)
 .have:=cc.rng g hg;show(1≤(C g).1∧(C g).1≤s.came)∧1≤(C g).2∧(C g).2≤r.now+1;omega
 .have hj2:j<(s.aL.set k ⟨x,s.came⟩).length:=hj;show ∃z,(r.born.set k (r.now+1))[j]?=some z∧CT C (gls s) s.came (r.now+1) ((s.aL.set k ⟨x,s.came⟩)[j]'hj2).n z;rw[List.getElem?_set,List.getElem_set];by_cases e:k=j
  .subst e;have:=h.bl.2.2;refine⟨r.now+1,by rw[if_pos rfl,if_pos (by omega)],?_⟩;rw[if_pos rfl];refine⟨⟨h.cm.1.1,gm _,gm _⟩,λg hg=>?_⟩;have:=cc.rng g hg;show(C g).1≤s.came↔(C g).2<r.now+1;omega
  rw[if_neg e,if_neg e];obtain⟨z,h1,h2⟩:=cc.vb j (hlen hj);exact⟨z,h1,hup h2⟩
 .obtain⟨z,h1,h2⟩:=cc.tb y hy j (hlen hj);exact⟨z,h1,hup h2⟩
 show(s.log++entry 87 t).length≤_;have:=h.lg;rw[dE,jf];omega
theorem dK.come(h:dK s r q)(V:List Ct)(hV:V.length=s.aL.length)(D:List cC)(Bo:List Int)(nw:Int)(hnw:r.now≤nw∧nw≤r.now+1)(hD:∀j(hj:j<V.length),D[j]?=some V[j].x.ba)
 (hB:∀C,CC s r C->∀j(hj:j<V.length),∃z,Bo[j]?=some z∧CT C (gls s) s.came nw V[j].n z)(g t:Int)(hg:g∉gls s)(hgr:1≤g∧g≤999999999)(CB:0≤t∧t≤1073741824)(h12:s.ss.length<12)(tk:Int)(htk:0≤tk∧tk≤999999)
 {sv lv uU:Value}(c:UInt8){tx:cC}(htx:tx.size≤105):
 dK ((aK.add {s with aL:=V,taken:=tk} g t sv).noted c tx lv) {r with now:=nw+1,last:=tk,dat:=D,born:=Bo,sh:=r.sh++[⟨g,t,0,nw+1,D,Bo⟩],sv:=uU} (q+1):=by
 obtain⟨C,cc⟩:=h.cc;have hss:((aK.add {s with aL:=V,taken:=tk} g t sv).noted c tx lv).ss=s.ss++[⟨g,t,0,s.came+1⟩]:=rfl;have hth:∀(g':Int)(j:Nat),((aK.add {s with aL:=V,taken:=tk} g t sv).noted c tx lv).th g' j=if g'=g∧0≤(j:Int)∧(j:Int)<V.length then V.getD (j:Int).toNat Ct.zero else s.th g' j:=λ_ _=>rfl;have hgl:∀g',g'∈gls ((aK.add {s with aL:=V,taken:=tk} g t sv).noted c tx lv)->g'∈gls s∨g'=g:=λg' hg'=>by
  rcases bn.1 hg' with⟨x,hx,e⟩|⟨m,hm,e⟩
  .rw[hss]at hx;rcases dT.1 hx with hx|hx
   .exact Or.inl (bn.2 (Or.inl ⟨x,hx,e⟩))
   right;simp at hx;rw[<-e,hx]
  exact Or.inl (bn.2 (Or.inr ⟨m,hm,e⟩))
 have hgs:∀x∈s.ss,x.au≠g:=λx hx e=>hg (bn.2 (Or.inl ⟨x,hx,e⟩));have hgm:∀m∈s.ms,m.1≠g:=λm hm e=>hg (bn.2 (Or.inr ⟨m,hm,e⟩));have hrs:∀x∈r.sh,x.au≠g:=λx hx e=>by
  have hm:x.au∈s.ss.map Sn.au:=by rw[h.vv];exact jb hx
  obtain⟨y,hy,e2⟩:=fm.1 hm;exact hgs y hy (by omega)
 have hrm:∀m∈r.ms,m.1≠g:=λm hm e=>by
  have hm':m.1∈s.ms.map Prod.fst:=by rw[h.ms];exact jb hm
  obtain⟨y,hy,e2⟩:=fm.1 hm';exact hgm y hy (by omega)
 have hne:∀g'∈gls s,g'≠g:=λg' hg' e=>hg (e▸hg')
 let C':Int->Int×Int:=λx=>if x=g then(s.came+1,nw+1)else C x
 have c1:C' g=(s.came+1,nw+1):=if_pos rfl;have c2:∀x,x≠g->C' x=C x:=λx hx=>if_neg hx;have hct:∀{n z:Int},CT C (gls s) s.came nw n z->CT C' (gls ((aK.add {s with aL:=V,taken:=tk} g t sv).noted c tx lv)) (s.came+1) (nw+1) n z:=λ{n z}h=>by
  refine⟨⟨h.1.1,by have:=h.1.2.1;omega,by have:=h.1.2.2;omega⟩,λg' hg'=>?_⟩;rcases hgl g' hg' with h1|rfl
  .rw[c2 g' (hne g' h1)];exact h.2 g' h1
  rw[c1];have h1:=h.1.2.1;have h2:=h.1.2.2;show s.came+1≤n↔nw+1<z;omega
 have hup:∀{n z:Int},CT C (gls s) s.came r.now n z->CT C (gls s) s.came nw n z:=λh=>⟨⟨h.1.1,h.1.2.1,by have:=h.1.2.2;omega⟩,h.2⟩;have Ju:∀x∈r.sh++[(⟨g,t,0,nw+1,D,Bo⟩:aS)],x∈r.sh∨x=⟨g,t,0,nw+1,D,Bo⟩:=λx hx=>by
  rcases dT.1 hx with hx|hx
  .exact Or.inl hx
  exact Or.inr (by simpa using hx)
 refine⟨h.id,⟨by show r.blocks=V.length;rw[hV];exact h.bl.1,by show 1≤V.length;rw[hV];exact h.bl.2.1,by show V.length≤16;rw[hV];exact h.bl.2.2⟩,hD,rfl,⟨⟨by have:=h.cm.1.1;show 0≤s.came+1;omega,by have:=h.cm.1.2;show s.came+1≤_;omega⟩,htk⟩,?_,h.ms,?_,⟨by rw[hss];simp;omega,h.len.2⟩,?_,h.Qc,h.mp,?_,?_,?_,⟨C',⟨?_,?_,?_,?_,?_,?_,?_,?_,?_⟩⟩,⟨by have:=h.rn.1;show 0≤nw+1;omega,by have:=h.rn.2;show nw+1≤_;omega⟩,?_,?_⟩
 .rw[hss,fj,fj,h.ss];rfl
 .intro y hy j hj;have hj':j<V.length:=hj;rw[hth];rcases Ju y hy with hy|rfl
  .rw[if_neg (λe=>hrs y hy e.1)];exact h.th y hy j (by omega)
  rw[if_pos ⟨rfl,by omega,by omega⟩];have e5:V.getD (j:Int).toNat Ct.zero=V[j]:=by simp[hj']
  rw[e5];exact hD j hj'
 .rw[hss,fj,List.nodup_append];refine⟨h.nd,by simp,λa ha b hb=>?_⟩;obtain⟨x,hx,rfl⟩:=fm.1 ha;have e:b=g:=by simpa using hb
  rw[e];exact hgs x hx
 .intro g' hg';rcases hgl g' hg' with h1|rfl
  .exact h.gr g' h1
  exact hgr
 .intro x hx;rw[hss]at hx;rcases dT.1 hx with hx|hx
  .exact h.tr x hx
  have e:x=⟨g,t,0,s.came+1⟩:=by simpa using hx
  subst e;exact CB
 .intro x hx;rw[hss]at hx;rcases dT.1 hx with hx|hx
  .exact h.ho x hx
  have e:x=⟨g,t,0,s.came+1⟩:=by simpa using hx
  subst e;exact⟨gm _,by show(0:Int)≤9;omega⟩
 .intro x hx;rw[hss]at hx;rcases dT.1 hx with hx|hx
  .rw[c2 _ (hgs x hx)];exact cc.ps x hx
  have e:x=⟨g,t,0,s.came+1⟩:=by simpa using hx
  subst e;show s.came+1=(C' g).1;rw[c1]
 .intro m hm;rw[c2 _ (hgm m hm)];exact cc.pm m hm
 .intro x hx;rcases Ju x hx with hx|rfl
  .rw[c2 _ (hrs x hx)];exact cc.rs x hx
  show nw+1=(C' g).2;rw[c1]
 .intro m hm;rw[c2 _ (hrm m hm)];exact cc.rm m hm
 .intro g' hg';show(1≤(C' g').1∧(C' g').1≤s.came+1)∧1≤(C' g').2∧(C' g').2≤nw+1;rcases hgl g' hg' with h1|rfl
  .rw[c2 _ (hne g' h1)];have:=cc.rng g' h1;omega
  rw[c1];have:=h.cm.1.1;have:=h.rn.1;show(1≤s.came+1∧s.came+1≤s.came+1)∧1≤nw+1∧nw+1≤nw+1;omega
 .intro g1 hg1 g2 hg2;rcases hgl g1 hg1 with h1|rfl
  .rw[c2 _ (hne g1 h1)];have r1:=cc.rng g1 h1;rcases hgl g2 hg2 with h2|rfl
   .rw[c2 _ (hne g2 h2)];exact cc.ord g1 h1 g2 h2
   rw[c1];show(C g1).1<s.came+1↔(C g1).2<nw+1;omega
  rw[c1];rcases hgl g2 hg2 with h2|rfl
  .rw[c2 _ (hne g2 h2)];have r2:=cc.rng g2 h2;show s.came+1<(C g2).1↔nw+1<(C g2).2;omega
  rw[c1];show s.came+1<s.came+1↔nw+1<nw+1;omega
 .intro g1 hg1 g2 hg2;rcases hgl g1 hg1 with h1|rfl
  .rw[c2 _ (hne g1 h1)];have r1:=cc.rng g1 h1;rcases hgl g2 hg2 with h2|rfl
   .rw[c2 _ (hne g2 h2)];exact cc.inj g1 h1 g2 h2
   rw[c1];intro e;have e':(C g1).1=s.came+1:=e;omega
  rw[c1];rcases hgl g2 hg2 with h2|rfl
  .rw[c2 _ (hne g2 h2)];have r2:=cc.rng g2 h2;intro e;have e':s.came+1=(C g2).1:=e;omega
  intro _;rfl
 .intro j hj;have hj':j<V.length:=hj;obtain⟨z,h1,h2⟩:=hB C cc j hj';exact⟨z,h1,hct h2⟩
 .intro x hx j hj;have hj':j<V.length:=hj;rw[hth];rcases Ju x hx with hx|rfl
  .rw[if_neg (λe=>hrs x hx e.1)];obtain⟨z,h1,h2⟩:=cc.tb x hx j (by omega);exact⟨z,h1,hct (hup h2)⟩
  rw[if_pos ⟨rfl,by omega,by omega⟩];have e5:V.getD (j:Int).toNat Ct.zero=V[j]:=by simp[hj']
  rw[e5];obtain⟨z,h1,h2⟩:=hB C cc j hj';exact⟨z,h1,hct h2⟩
 .show(s.log++entry c tx).length≤_;have:=h.lg;rw[dE,jf];omega
 show s.cnt+V.length≤_;have:=h.cn;have:=h.bl.2.2;omega
theorem mY{α β:Type}(f:α->β)(p:β->Bool)(l:List α):(l.filter λx=>p (f x)).map f=(l.map f).filter p:=by rw[List.filter_map];rfl
structure Dl(s:aK)(zs:List Int)(s':aK):Prop where
 ss:s'.ss=left s.ss zs
 ms:s'.ms=s.ms
 aL:s'.aL=s.aL
 id:s'.id=s.id
 came:s'.came=s.came
 taken:s'.taken=s.taken
 cnt:s'.cnt=s.cnt
 th:∀g i,g∉zs->s'.th g i=s.th g i
 log:s'.log=s.log++(if zs=[]then[]else entry 68 (lF zs))
theorem vI.pure{B b:Nat}{zs:List Int}{w w':World}(d:vI B b s zs w w' s'):Dl s zs s':=⟨d.ss,d.ms,d.aL,d.id,d.came,d.taken,d.cnt,d.th,d.log⟩
theorem dK.destroy(h:dK s r q){zs:List Int}(d:Dl s zs s')(hz:zs.length≤12)(sv:Value):dK s' (r.ny (fV r.sh zs) sv) (q+1):=by
 have hsub:∀x∈s'.ss,x∈s.ss:=λx hx=>by rw[d.ss]at hx;exact(List.mem_filter.1 hx).1
 have Jv:∀x∈fV r.sh zs,x∈r.sh∧x.au∉zs:=λx hx=>by obtain⟨h1,h2⟩:=List.mem_filter.1 hx;refine⟨h1,λhm=>?_⟩;simp only[kq,gR]at h2;exact h2 _ hm (by simp[mE,aS.sn])
 obtain⟨C,cc⟩:=h.cc;refine⟨by rw[d.id];exact h.id,by rw[d.aL];exact h.bl,?_,by rw[d.taken];exact h.last,by rw[d.came,d.taken];exact⟨⟨h.cm.1.1,by have:=h.cm.1.2;omega⟩,h.cm.2⟩,?_,by rw[d.ms];exact h.ms,?_,⟨?_,by rw[d.ms];exact h.len.2⟩,?_,by rw[d.ms];exact h.Qc,h.mp,?_,λx hx=>h.tr x (hsub x hx),λx hx=>h.ho x (hsub x hx),⟨C,cc.sub (λx hx=>⟨x,hsub x hx,rfl,rfl⟩) (λm hm=>Or.inl (by rw[d.ms]at hm;exact hm)) (λx hx=>⟨x,(Jv x hx).1,rfl,rfl,rfl⟩) (λm hm=>Or.inl hm) d.aL rfl d.came rfl (λx hx j=>d.th _ _ (Jv x hx).2)⟩,⟨h.rn.1,by have:=h.rn.2;show r.now≤_;omega⟩,?_,by rw[d.cnt];have:=h.cn;omega⟩
 .intro j hj;have hj':j<s.aL.length:=by rw[d.aL]at hj;exact hj
  have e:s'.aL[j]=s.aL[j]:=by simp only[d.aL]
  rw[e];exact h.dat j hj'
 .rw[d.ss];have e1:=mY t3 (λy:Int×Int×Int=>!(zs.any λz=>y.1==z)) s.ss;have e2:=mY r3 (λy:Int×Int×Int=>!(zs.any λz=>y.1==z)) r.sh;rw[h.ss,<-e2]at e1;exact e1
 .intro x hx j hj;rw[d.aL]at hj;obtain⟨h1,h2⟩:=Jv x hx;rw[d.th _ _ h2];exact h.th x h1 j hj
 .rw[d.ss];exact eJ (List.length_filter_le _ _) h.len.1
 .rw[d.ss];exact h.nd.sublist (List.filter_sublist.map _)
 .intro g hg;refine h.gr g ?_;rcases bn.1 hg with⟨x,hx,e⟩|⟨m,hm,e⟩
  .exact bn.2 (Or.inl ⟨x,hsub x hx,e⟩)
  rw[d.ms]at hm;exact bn.2 (Or.inr ⟨m,hm,e⟩)
 rw[d.log,dE];have:=h.lg;by_cases e:zs=[]
 .rw[if_pos e];simp;omega
 rw[if_neg e,jf,DI];omega
theorem vw(f:Int->Int):∀(l l':List Int),l.Pairwise (λa b=>f a<f b)->l'.Pairwise (λa b=>f a<f b)->(∀x,x∈l↔x∈l')->l=l'
 |[],[],_,_,_=>rfl
 |[],b::l',_,_,h=>absurd ((h b).2 (by simp)) (by simp)
 |a::l,[],_,_,h=>absurd ((h a).1 (by simp)) (by simp)
 |a::l,b::l',h1,h2,h=>by
  rw[List.pairwise_cons]at h1 h2;have e:a=b:=by
   have ha:=(h a).1 (by simp);have hb:=(h b).2 (by simp);rcases ek.1 ha with e|e
   .exact e
   rcases ek.1 hb with e2|e2
   .exact e2.symm
   have:=h1.1 b e2;have:=h2.1 a e;omega
  subst e;rw[vw f l l' h1.2 h2.2 (λx=>?_)];have hx:=h x;simp only[ek]at hx;constructor
  .intro hm;have h3:=h1.1 x hm;rcases hx.1 (Or.inr hm)with e|e
   .rw[e]at h3;omega
   exact e
  intro hm;have h3:=h2.1 x hm;rcases hx.2 (Or.inr hm)with e|e
  .rw[e]at h3;omega
  exact e
theorem vB(m y:Int×Int)(l:List (Int×Int)):jc m (y::l)=if y.2<m.2 then y::jc m l else m::y::l:=by
 unfold jc;rw[gY];by_cases e:y.2<m.2
 .simp[e]
 simp[e]
theorem mq(m:Int×Int):∀(l:List (Int×Int))(b:Int×Int),b∈jc m l↔b=m∨b∈l
 |[],b=>by simp[jc]
 |y::l,b=>by
  rw[vB];by_cases e:y.2<m.2
  .rw[if_pos e,ek,mq m l b,ek];constructor
   .rintro(h|h|h)
    .exact Or.inr (Or.inl h)
    .exact Or.inl h
    exact Or.inr (Or.inr h)
   rintro(h|h|h)
   .exact Or.inr (Or.inl h)
   .exact Or.inl h
   exact Or.inr (Or.inr h)
  rw[if_neg e,ek]
theorem tK(m:Int×Int):∀(l:List (Int×Int)),l.Pairwise (λa b=>a.2<b.2)->(∀a∈l,a.2≠m.2)->(jc m l).Pairwise (λa b=>a.2<b.2)
 |[],_,_=>by simp[jc]
 |y::l,h,hm=>by
  rw[vB];rw[List.pairwise_cons]at h;have hy:=hm y (by simp);by_cases e:y.2<m.2
  .rw[if_pos e,List.pairwise_cons];refine⟨λb hb=>?_,tK m l h.2 (λa ha=>hm a (by simp[ha]))⟩;rcases(mq m l b).1 hb with rfl|hb
   .exact e
   exact h.1 b hb
  rw[if_neg e,List.pairwise_cons];refine⟨λb hb=>?_,List.pairwise_cons.2 h⟩;rcases ek.1 hb with rfl|hb
  .omega
  have h2:=h.1 b hb;omega
theorem dK.marked(h:dK s r q){j:Nat}{x:Sn}{y:aS}(hx:s.ss[j]?=some x)(hy:r.sh[j]?=some y)(hno:∀m∈s.ms,m.1≠x.au)(h12:s.ms.length<12){l:List (Int×Int)}{mv mv' lv:Value}(hp:l.Perm (s.ms++[(x.au,x.came)]))(hs:l.Pairwise λa b=>a.2≤b.2){t:cC}(ht:t.size≤50):dK ((s.marked l mv).noted 77 t lv) (r.lC (jc (x.au,y.came) r.ms) mv') (q+1):=by
 obtain⟨C,cc⟩:=h.cc;have hj:j<s.ss.length:=(df.1 hx).1;have ex:=(df.1 hx).2;have ey:=(df.1 hy).2;have hxy:=h.at hj;rw[ex,ey]at hxy;have hg:y.au=x.au:=by unfold t3 r3 at hxy;simp only[Prod.mk.injEq]at hxy;exact hxy.1.symm
 have hxm:=eW hx;have hym:=eW hy;have hlm:∀m∈l,m∈s.ms∨∃y∈s.ss,m=(y.au,y.came):=λm hm=>by
  rcases dT.1 (hp.mem_iff.1 hm)with hm|hm
  .exact Or.inl hm
  exact Or.inr ⟨x,hxm,by simpa using hm⟩
 have YB:∀m∈l,m.2=(C m.1).1∧m.1∈gls s:=λm hm=>by
  rcases hlm m hm with hm|⟨y,hy,rfl⟩
  .exact⟨cc.pm m hm,bn.2 (Or.inr ⟨m,hm,rfl⟩)⟩
  exact⟨cc.ps y hy,bn.2 (Or.inl ⟨y,hy,rfl⟩)⟩
 have hnd:(l.map Prod.fst).Nodup:=by
  rw[(hp.map Prod.fst).nodup_iff,fj,List.nodup_append];refine⟨h.Qc,by simp,λa ha b hb=>?_⟩;obtain⟨m,hm,rfl⟩:=fm.1 ha;have e:b=x.au:=by simpa using hb
  rw[e];exact hno m hm
 have hlp:(l.map Prod.fst).Pairwise λa b=>(C a).1<(C b).1:=by
  rw[List.pairwise_map];have hnd':=hnd;rw[List.Nodup,List.pairwise_map]at hnd';refine(List.pairwise_and_iff.2 ⟨hs,hnd'⟩).imp_of_mem ?_;intro a b ha hb ⟨h1,h2⟩;have e1:=YB a ha;have e2:=YB b hb;rcases Int.lt_or_eq_of_le h1 with h3|h3
  .omega
  exact absurd (cc.inj a.1 e1.2 b.1 e2.2 (by omega)) h2
 have YC:∀m∈r.ms,m.1∈s.ms.map Prod.fst:=λm hm=>by rw[h.ms];exact jb hm
 have U5:∀m∈r.ms,m.1∈gls s∧m.1≠x.au:=λm hm=>by obtain⟨m',hm',e⟩:=fm.1 (YC m hm);exact⟨bn.2 (Or.inr ⟨m',hm',e⟩),by rw[<-e];exact hno m' hm'⟩
 have hxg:x.au∈gls s:=bn.2 (Or.inl ⟨x,hxm,rfl⟩);have hyC:y.came=(C x.au).2:=by rw[<-hg];exact cc.rs y hym
 have hir:=tK (x.au,y.came) r.ms h.mp (λa ha e=>by have h1:=cc.rm a ha;obtain⟨h2,h3⟩:=U5 a ha;have e':a.2=y.came:=e;have o1:=cc.ord a.1 h2 x.au hxg;have o2:=cc.ord x.au hxg a.1 h2;exact h3 (cc.inj a.1 h2 x.au hxg (by omega)));have hiC:∀m∈jc (x.au,y.came) r.ms,m.2=(C m.1).2∧m.1∈gls s:=λm hm=>by
  rcases(mq _ _ _).1 hm with rfl|hm
  .exact⟨hyC,hxg⟩
  exact⟨cc.rm m hm,(U5 m hm).1⟩
 have hip:((jc (x.au,y.came) r.ms).map Prod.fst).Pairwise λa b=>(C a).1<(C b).1:=by rw[List.pairwise_map];refine hir.imp_of_mem ?_;intro a b ha hb h1;obtain⟨e1,g1⟩:=hiC a ha;obtain⟨e2,g2⟩:=hiC b hb;exact(cc.ord _ g1 _ g2).2 (by omega)
 have hms:l.map Prod.fst=(jc (x.au,y.came) r.ms).map Prod.fst:=by
  refine vw (λz=>(C z).1) _ _ hlp hip (λz=>?_);rw[(hp.map Prod.fst).mem_iff,fj,dT,h.ms];simp only[fm,j8,mq];constructor
  .rintro(⟨a,ha,e⟩|⟨a,rfl,e⟩)
   .exact⟨a,Or.inr ha,e⟩
   exact⟨_,Or.inl rfl,e⟩
  rintro⟨a,rfl|ha,e⟩
  .exact Or.inr ⟨_,rfl,e⟩
  exact Or.inl ⟨a,ha,e⟩
 refine⟨h.id,h.bl,h.dat,h.last,⟨⟨h.cm.1.1,by have:=h.cm.1.2;show s.came≤_;omega⟩,h.cm.2⟩,h.ss,hms,h.th,⟨h.len.1,?_⟩,h.nd,hnd,hir,λg hg'=>?_,h.tr,h.ho,⟨C,cc.sub (λx hx=>⟨x,hx,rfl,rfl⟩) hlm (λx hx=>⟨x,hx,rfl,rfl,rfl⟩) (λm hm=>?_) rfl rfl rfl rfl (λ_ _ _=>rfl)⟩,⟨h.rn.1,by have:=h.rn.2;show r.now≤_;omega⟩,?_,by have:=h.cn;show s.cnt≤_;omega⟩
 .show l.length≤12;rw[hp.length_eq];simp;omega
 .rcases bn.1 hg' with⟨x,hx,e⟩|⟨m,hm,e⟩
  .exact h.gr g (bn.2 (Or.inl ⟨x,hx,e⟩))
  rw[<-e];exact h.gr _ (YB m hm).2
 .rcases(mq _ _ _).1 hm with rfl|hm
  .exact Or.inr ⟨y,hym,by rw[hg]⟩
  exact Or.inl hm
 show(s.log++entry 77 t).length≤_;have:=h.lg;rw[dE,jf];omega
theorem dK.ig(h:dK s r q)(j:Nat){mv mv' lv:Value}{t:cC}(ht:t.size≤50):dK ((s.ig j mv).noted 85 t lv) (r.lC (r.ms.eraseIdx j) mv') (q+1):=by
 obtain⟨C,cc⟩:=h.cc;have hsub:∀m∈s.ms.eraseIdx j,m∈s.ms:=λm hm=>(List.eraseIdx_sublist _ _).subset hm;refine⟨h.id,h.bl,h.dat,h.last,⟨⟨h.cm.1.1,by have:=h.cm.1.2;show s.came≤_;omega⟩,h.cm.2⟩,h.ss,?_,h.th,⟨h.len.1,eJ (List.eraseIdx_sublist _ _).length_le h.len.2⟩,h.nd,h.Qc.sublist ((List.eraseIdx_sublist _ _).map _),h.mp.sublist (List.eraseIdx_sublist _ _),λg hg=>?_,h.tr,h.ho,⟨C,cc.sub (λx hx=>⟨x,hx,rfl,rfl⟩) (λm hm=>Or.inl (hsub m hm)) (λx hx=>⟨x,hx,rfl,rfl,rfl⟩) (λm hm=>Or.inl ((List.eraseIdx_sublist _ _).subset hm)) rfl rfl rfl rfl (λ_ _ _=>rfl)⟩,⟨h.rn.1,by have:=h.rn.2;show r.now≤_;omega⟩,?_,by have:=h.cn;show s.cnt≤_;omega⟩
 .show(s.ms.eraseIdx j).map Prod.fst=(r.ms.eraseIdx j).map Prod.fst;rw[iu,iu,fj,fj,List.map_take,List.map_take,List.map_drop,List.map_drop,h.ms]
 .rcases bn.1 hg with⟨x,hx,e⟩|⟨m,hm,e⟩
  .exact h.gr g (bn.2 (Or.inl ⟨x,hx,e⟩))
  exact h.gr g (bn.2 (Or.inr ⟨m,hsub m hm,e⟩))
 show(s.log++entry 85 t).length≤_;have:=h.lg;rw[dE,jf];omega
theorem dK.start(id:Int)(n vb mb:Nat)(lv:Value)(h1:1≤id∧id≤999)(h2:1≤n∧n≤16):dK (newS id n vb mb lv) (ak.fresh id n 16) 0:=by
 have e:(newS id n vb mb lv).aL=List.replicate n Ct.zero:=rfl;have Dj:(ak.fresh id n 16).born=List.replicate 16 0:=rfl;refine⟨⟨rfl,h1⟩,⟨by rw[e];simp[ak.fresh],by rw[e];simpa using h2.1,by rw[e];simpa using h2.2⟩,λj hj=>?_,rfl,⟨⟨gm _,gm _⟩,gm _,by show(0:Int)≤999999;omega⟩,rfl,rfl,by simp[ak.fresh],⟨by simp[newS,aK.fresh,aK.noted],by simp[newS,aK.fresh,aK.noted]⟩,by simp[newS,aK.fresh,aK.noted],by simp[newS,aK.fresh,aK.noted],by simp[ak.fresh],by simp[gls,newS,aK.fresh,aK.noted],by simp[newS,aK.fresh,aK.noted],by simp[newS,aK.fresh,aK.noted],⟨λ_=>(0,0),⟨by simp[newS,aK.fresh,aK.noted],by simp[newS,aK.fresh,aK.noted],by simp[ak.fresh],by simp[ak.fresh],by simp[gls,newS,aK.fresh,aK.noted],by simp[gls,newS,aK.fresh,aK.noted],by simp[gls,newS,aK.fresh,aK.noted],λj hj=>?_,by simp[ak.fresh]⟩⟩,⟨gm _,by simp[ak.fresh]⟩,?_,by simp[newS,aK.fresh,aK.noted]⟩
 .have hj':j<n:=by rw[e]at hj;simpa using hj
  have e2:(newS id n vb mb lv).aL[j]=Ct.zero:=by simp only[e];simp
  rw[e2];show(kL 16)[j]?=some Ux;unfold kL;rw[eS (by simp;omega),List.getElem?_replicate,if_pos (by omega)]
 .have hj':j<n:=by rw[e]at hj;simpa using hj
  have e2:(newS id n vb mb lv).aL[j]=Ct.zero:=by simp only[e];simp
  rw[e2,Dj];refine⟨0,by rw[List.getElem?_replicate,if_pos (by omega)],⟨⟨gm _,gm _,gm _⟩,by simp[gls,newS,aK.fresh,aK.noted]⟩⟩
 show([]++entry 78 (xE id n)).length≤_;rw[fe,jf];have:(xE id n).size=5:=rfl;omega
end
section
variable {B:Nat}{w w1 w2 W:World}{db b rb:Nat}{s s':aK}{r r':ak}{q:Nat}
theorem four{t:cC}(h:t.size=4):∃x:B4,t=x.ba:=by
 obtain⟨d⟩:=t;have h1:d.size=4:=h;refine⟨⟨d[0],d[1],d[2],d[3]⟩,?_⟩;unfold B4.ba;congr 1;apply Array.ext
 .simp[h1]
 intro i hi _;have:i=0∨i=1∨i=2∨i=3:=by omega
 rcases this with rfl|rfl|rfl|rfl<;>rfl
theorem nI{b:Nat}{s:aK}{c:UInt8}{t:cC}{lv:Value}{N:Nat}(h:∀k,lv.ownBlock=some k->s.lv.ownBlock=some k∨N≤k):∀k∈foot b (s.noted c t lv),k∈foot b s∨N≤k:=λk hk=>by
 simp only[foot,aK.noted,dT,ek,gd]at hk⊢;rcases hk with hk|hk
 .exact Or.inl (Or.inl hk)
 rcases h k hk with h1|h1
 .exact Or.inl (Or.inr h1)
 exact Or.inr h1
theorem ou(z:Int):(n4 z).ba.size≤50:=by have:(n4 z).ba.size=4:=rfl;omega
theorem Jt:∀(l L:List Int),l.Nodup->(∀x∈l,x∈L)->l.length≤L.length
 |[],_,_,_=>dC _
 |a::l,L,h,hs=>by rw[List.nodup_cons]at h;have ha:=hs a (by simp);have ih:=Jt l (L.erase a) h.2 (λx hx=>(List.mem_erase_of_ne (λe=>h.1 (by rw[<-e];exact hx))).2 (hs x (by simp[hx])));have hp:=List.length_pos_of_mem ha;rw[List.length_erase_of_mem ha]at ih;simp only[il];omega
theorem zD(p:Nat->Bool):∀N,(∃i,i<N∧p i=true)->∃i,i<N∧p i=true∧∀j,j<i->p j=false
 |0,⟨_,h,_⟩=>absurd h (Nat.not_lt_zero _)
 |N+1,⟨i,h,hp⟩=>by
  by_cases hs:∃i,i<N∧p i=true
  .obtain⟨i,h1,h2⟩:=zD p N hs;exact⟨i,by omega,h2⟩
  have e:i=N:=by
   rcases Nat.lt_succ_iff_lt_or_eq.1 h with h1|h1
   .exact absurd ⟨i,h1,hp⟩ hs
   exact h1
  subst e;exact⟨i,h,hp,λj hj=>by cases hq:p j;rfl;exact absurd ⟨j,hj,hq⟩ hs⟩
theorem BM(g:Int):Hs s g=true↔g∈gls s:=by unfold Hs;rw[kz,fW,fW,bn];simp
theorem dK.hs(m:dK s r q)(g:Int):JK r g=Hs s g:=by
 have e1:r.sh.any (λx=>x.au==g)=(r.sh.map aS.au).any (λz=>z==g):=by rw[List.any_map];rfl
 have e2:s.ss.any (λx=>x.au==g)=(s.ss.map Sn.au).any (λz=>z==g):=by rw[List.any_map];rfl
 have e3:r.ms.any (λx=>x.1==g)=(r.ms.map Prod.fst).any (λz=>z==g):=by rw[List.any_map];rfl
 have e4:s.ms.any (λx=>x.1==g)=(s.ms.map Prod.fst).any (λz=>z==g):=by rw[List.any_map];rfl
 unfold JK Hs;rw[e1,e2,e3,e4,m.vv,m.ms]
theorem dK.next(m:dK s r q):∃n,Fx s n∧DW r n:=by
 have hex:∃i,i<25∧(!Hs s (gu s (s.taken+1+(i:Nat))))=true:=by
  by_cases h:∃i,i<25∧(!Hs s (gu s (s.taken+1+(i:Nat))))=true
  .exact h
  exfalso;have h1:=Jt ((List.range 25).map λi:Nat=>gu s (s.taken+1+(i:Nat))) (gls s) (by
   rw[List.Nodup,List.pairwise_map];refine List.nodup_range.imp ?_;intro a b hab e;unfold gu at e;exact hab (by omega)) (λx hx=>by
   obtain⟨i,hi,rfl⟩:=fm.1 hx;rw[<-BM];cases hq:Hs s (gu s (s.taken+1+(i:Nat)))
   .exact absurd ⟨i,gk.1 hi,by rw[hq];rfl⟩ h
   rfl)
  have:=m.len;simp[gls]at h1;omega
 obtain⟨i,h1,h2,h3⟩:=zD (λi=>!Hs s (gu s (s.taken+1+(i:Nat)))) 25 hex;have e1:=m.id.1;have e2:=m.last;have eg:∀k,1000000*r.id+k=gu s k:=λk=>by unfold gu;omega
 have hN:Fx s (s.taken+1+(i:Nat)):=⟨by omega,by omega,λk hk1 hk2=>by
  have h4:=h3 (k-s.taken-1).toNat (by omega);have e:s.taken+1+(((k-s.taken-1).toNat:Nat):Int)=k:=by omega
  rw[e]at h4;simpa using h4,by simpa using h2⟩
 exact⟨_,hN,by rw[e2];exact hN.lo,by rw[e2];exact hN.hi,λk hk1 hk2=>by rw[eg,m.hs];exact hN.no k (by rw[<-e2];exact hk1) hk2,by rw[eg,m.hs];exact hN.yes⟩
theorem qJ{N:Nat}(hv:s'.vb=s.vb)(hm:s'.mb=s.mb)(h1:∀k,s'.sv.ownBlock=some k->s.sv.ownBlock=some k∨N≤k)(h2:∀k,s'.mv.ownBlock=some k->s.mv.ownBlock=some k∨N≤k)(h3:∀k,s'.lv.ownBlock=some k->s.lv.ownBlock=some k∨N≤k):∀k∈foot b s',k∈foot b s∨N≤k:=λk hk=>by
 simp only[foot,dT,ek,fy,or_false,gd]at hk⊢;rw[hv,hm]at hk;rcases hk with((hk|hk)|hk)|hk
 .exact Or.inl (Or.inl (Or.inl (Or.inl hk)))
 .rcases h1 k hk with h|h
  .exact Or.inl (Or.inl (Or.inl (Or.inr h)))
  exact Or.inr h
 .rcases h2 k hk with h|h
  .exact Or.inl (Or.inl (Or.inr h))
  exact Or.inr h
 rcases h3 k hk with h|h
 .exact Or.inl (Or.inr h)
 exact Or.inr h
theorem ku{N:Nat}(h1:∀k,r'.sv.ownBlock=some k->r.sv.ownBlock=some k∨N≤k)(h2:∀k,r'.mv.ownBlock=some k->r.mv.ownBlock=some k∨N≤k):∀k∈aN rb r',k∈aN rb r∨N≤k:=λk hk=>by
 simp only[aN,dT,ek,fy,or_false,gd]at hk⊢;rcases hk with(hk|hk)|hk
 .exact Or.inl (Or.inl (Or.inl hk))
 .rcases h1 k hk with h|h
  .exact Or.inl (Or.inl (Or.inr h))
  exact Or.inr h
 rcases h2 k hk with h|h
 .exact Or.inl (Or.inr h)
 exact Or.inr h
theorem any_map{α β:Type}(f:α->β)(p:β->Bool)(l:List α):(l.map f).any p=l.any λx=>p (f x):=by rw[List.any_map];rfl
theorem dK.fine(m:dK s r q)(zs:List Int)(k:Nat):aZ (r.sh.map aS.sn) zs k=aZ s.ss zs k:=by unfold aZ;congr 1;have e1:=any_map Sn.au (λg:Int=>g==tm zs k) s.ss;have e2:=any_map aS.au (λg:Int=>g==tm zs k) r.sh;rw[m.vv,e2]at e1;rw[List.any_map];exact e1
theorem dK.held(m:dK s r q)(zs:List Int)(k:Nat):dG (r.sh.map aS.sn) zs k=dG s.ss zs k:=by unfold dG;have e1:=any_map t3 (λy:Int×Int×Int=>(y.1==tm zs k)&&decide (y.2.2>0)) s.ss;have e2:=any_map r3 (λy:Int×Int×Int=>(y.1==tm zs k)&&decide (y.2.2>0)) r.sh;rw[m.ss,e2]at e1;rw[List.any_map];exact e1
theorem eU.fr{F:List Nat}{ao:Option Addr}{zs:List Int}{cap:Nat}(h:eU w ao zs cap)(hf:Fr F w W)(hn:∀k off,ao=some (Ad k off)->0<zs.length->k∉F):eU W ao zs cap:=by refine⟨h.1,λh0=>?_⟩;obtain⟨rb,off,e,hc⟩:=h.2 h0;refine⟨rb,off,e,λi hi=>?_⟩;exact(du (hf.block rb (dm _ _ (hc i hi)) (hn rb off e h0))).trans (hc i hi)
theorem dK.newest(m:dK s r q):aI r=gy s.ss:=by
 have hg:=m.vv;have e1:r.sh.getLast?.map aS.au=s.ss.getLast?.map Sn.au:=by rw[<-List.getLast?_map,<-List.getLast?_map,hg]
 have e2:aI r=(r.sh.getLast?.map aS.au).getD 0:=by unfold aI;cases r.sh.getLast?<;>rfl
 rw[e2,e1];rfl
end
def RQ(r r':ak):Prop:=∃sv mv,r'={r with sv:=sv,mv:=mv}
def Gw(F F':List Nat)(w w':World):Prop:=Fr F w w'∧∀k∈F',k∈F∨w.heap.size≤k
def St(B:Nat)(w:World)(b:Nat)(F:List Nat)(r:ak)(q:Nat):Prop:=∃s,aC B w b 0 s∧dK s r q∧F=foot b s
def Eb(B:Nat)(w:World)(b:Nat)(F:List Nat)(r:ak):Prop:=∃r0,RQ r r0∧aG B w b r0∧F=aN b r0
def UC(f:Nat)(args:Nat->Array Value)(r:ak)(v:Value)(r':ak):Prop:=
 ∀(B b:Nat)(F:List Nat)(q:Nat)(w:World),St B w b F r q->q≤1000000000->Rc f (args b) w v λw'=>∃F',St B w' b F' r' (q+1)∧Gw F F' w w'
def RC(f:Nat)(args:Nat->Array Value)(r:ak)(v:Value)(r':ak):Prop:=
 ∀(B b:Nat)(F:List Nat)(w:World),Eb B w b F r->Rc f (args b) w v λw'=>∃F',Eb B w' b F' r'∧Gw F F' w w'
def V5(r:ak):Prop:=r.dat.length=16∧r.born.length=16∧∀x∈r.sh,x.wf
def Ok(n:Nat)(r:ak):Prop:=∃s q,dK s r q∧q≤n∧V5 r
def BC(f g:Nat)(args:Nat->Array Value)(r:ak)(v:Value)(r':ak):Prop:=UC f args r v r'∧RC g args r v r'∧∀n,Ok n r->Ok (n+1) r'
def p1(b:Nat):Value:=.p b
def fC(c:Int):Value:=.i c
def fT(p:cC×Int):Value:=.tuple #[.t p.1,.i p.2]
def fI(p:Int×Int):Value:=.tuple #[.i p.1,.i p.2]
abbrev vn:Value:=.slice none 0 0
section
variable {B:Nat}{w w' w1 w2 W:World}{b rb:Nat}{s s':aK}{r r' r0:ak}{q:Nat}{F F' SK:List Nat}{f g:Nat}{args:Nat->Array Value}{v:Value}
theorem RQ.refl(r:ak):RQ r r:=⟨r.sv,r.mv,rfl⟩
theorem Gw.refl(F:List Nat)(w:World):Gw F F w w:=⟨fR,λ_ h=>Or.inl h⟩
theorem Gw.trans(h:Gw F F' w w1)(h':Gw F' SK w1 w2):Gw F SK w w2:=
 ⟨h.1.trans h'.1 h.2,λk hk=>by
  rcases h'.2 k hk with h1|h1
  .exact h.2 k h1
  exact Or.inr (eJ h.1.size h1)⟩
theorem Gw.of(h:Fr [] w w'):Gw F F w w':=⟨h.mono (by simp),λ_ h=>Or.inl h⟩
theorem St.same(h:St B w b F r q)(hf:Fr [] w w'):St B w' b F r q:=by obtain⟨s,rp,m,rfl⟩:=h;exact⟨s,rp.aA hf,m,rfl⟩
theorem Eb.same(h:Eb B w b F r)(hf:Fr [] w w'):Eb B w' b F r:=by obtain⟨r0,e,rp,rfl⟩:=h;exact⟨r0,e,rp.aA hf,rfl⟩
theorem St.fr(h:St B w b F r q)(hf:Fr F' w w')(hn:∀k∈F,k∉F'):St B w' b F r q:=by obtain⟨s,rp,m,rfl⟩:=h;exact⟨s,rp.kept hf hn,m,rfl⟩
theorem Eb.fr(h:Eb B w b F r)(hf:Fr F' w w')(hn:∀k∈F,k∉F'):Eb B w' b F r:=by obtain⟨r0,e,rp,rfl⟩:=h;exact⟨r0,e,rp.kept hf hn,rfl⟩
theorem St.le(h:St B w b F r q){q':Nat}(hq:q≤q'):St B w b F r q':=by obtain⟨s,rp,m,rfl⟩:=h;exact⟨s,rp,m.le hq,rfl⟩
theorem UC.still(h:∀(B b:Nat)(s:aK)(q:Nat)(w:World),aC B w b 0 s->dK s r q->Rc f (args b) w v λw'=>aC B w' b 0 s∧Fr (foot b s) w w'):UC f args r v r:=λB b F q w⟨s,rp,m,hF⟩_=>by subst hF;refine(h B b s q w rp m).mono ?_;rintro e w1 ⟨he,rp',f1⟩;exact⟨he,_,⟨s,rp',m.le (by omega),rfl⟩,f1,λk hk=>Or.inl hk⟩
theorem UC.to(h:∀(B b:Nat)(s:aK)(q:Nat)(w:World),aC B w b 0 s->dK s r q->q≤1000000000->Rc f (args b) w v λw'=>∃s',aC B w' b 0 s'∧dK s' r' (q+1)∧Fr (foot b s) w w'∧∀k∈foot b s',k∈foot b s∨w.heap.size≤k):UC f args r v r':=λB b F q w⟨s,rp,m,hF⟩hq=>by subst hF;refine(h B b s q w rp m hq).mono ?_;rintro e w1 ⟨he,s',rp',m',f1,g1⟩;exact⟨he,_,⟨s',rp',m',rfl⟩,f1,g1⟩
theorem RC.still(h:∀(B b:Nat)(r0:ak)(w:World),RQ r r0->aG B w b r0->Rc g (args b) w v λw'=>Fr [] w w'):RC g args r v r:=λB b F w⟨r0,e0,rp,hF⟩=>by subst hF;refine(h B b r0 w e0 rp).mono ?_;rintro e w1 ⟨he,f1⟩;exact⟨he,_,⟨r0,e0,rp.aA f1,rfl⟩,Gw.of f1⟩
theorem RC.to(h:∀(B b:Nat)(r0:ak)(w:World),RQ r r0->aG B w b r0->Rc g (args b) w v λw'=>∃r2,RQ r' r2∧aG B w' b r2∧Fr (aN b r0) w w'∧∀k∈aN b r2,k∈aN b r0∨w.heap.size≤k):RC g args r v r':=λB b F w⟨r0,e0,rp,hF⟩=>by subst hF;refine(h B b r0 w e0 rp).mono ?_;rintro e w1 ⟨he,r2,e2,rp',f1,g1⟩;exact⟨he,_,⟨r2,e2,rp',rfl⟩,f1,g1⟩
theorem cu(h:w'=w):Fr [] w w':=h▸fR
theorem dK.spot(m:dK s r q){j:Nat}{y:aS}(hy:r.sh[j]?=some y):∃x,s.ss[j]?=some x∧x.au=y.au∧x.holds=y.holds∧x∈s.ss:=by
 have hj:j<r.sh.length:=(df.1 hy).1;have hj':j<s.ss.length:=by rw[<-m.iQ];exact hj
 have ey:=(df.1 hy).2;have hxy:=m.at hj';rw[ey]at hxy;unfold t3 r3 at hxy;simp only[Prod.mk.injEq]at hxy;exact⟨s.ss[j],dp hj',hxy.1,hxy.2.2,eE hj'⟩
theorem Ok.le{n k:Nat}(h:Ok n r)(hk:n≤k):Ok k r:=by obtain⟨s,q,m,hq,hw⟩:=h;exact⟨s,q,m,by omega,hw⟩
theorem Ok.up(n:Nat)(h:Ok n r):Ok (n+1) r:=h.le (by omega)
theorem V5.setH(h:V5 r){j:Nat}{y:aS}(hy:r.sh[j]?=some y)(z:Int):V5 (r.setH j y z):=⟨h.1,h.2.1,λx hx=>by
 rcases ik hx with hx|rfl
 .exact h.2.2 x hx
 exact h.2.2 y (eW hy)⟩
theorem Ok.setH{j:Nat}{y:aS}(hy:r.sh[j]?=some y){z:Int}(hz:0≤z∧z≤9)(n:Nat)(h:Ok n r):Ok (n+1) (r.setH j y z):=by obtain⟨s,q,m,hq,hw⟩:=h;obtain⟨x,hx,_⟩:=m.spot hy;exact⟨_,_,m.setH (c:=0) (t:=⟨#[]⟩) (lv:=vn) hx hy hz (by show 0≤50;omega),by omega,hw.setH hy z⟩
theorem Ok.spot{n:Nat}(h:Ok n r)(g:Int):fi (λy:aS=>y.au==g) 0 r.sh=-1∨∃(j:Nat)(y:aS),r.sh[j]?=some y∧fi (λy:aS=>y.au==g) 0 r.sh=(j:Int)∧y.au=g∧0≤y.holds∧y.holds≤9:=by
 obtain⟨s,q,m,_⟩:=h;rcases jv (λy:aS=>y.au==g) r.sh with e|⟨j,hj,e,hg⟩
 .exact Or.inl e
 obtain⟨x,hx,_,hh,hxm⟩:=m.spot (dp hj);have:=m.ho x hxm;exact Or.inr ⟨j,_,dp hj,e,by simpa using hg,by omega⟩
theorem CS(h:Ok 1000000000 r)(g:Int):∃c r',BC 70 71 (λb=>#[.p b,.i g]) r (fC c) r':=by
 obtain⟨s1,q1,m1,_⟩:=id h;have l1:=m1.iQ;have l2:=m1.len;rcases h.spot g with e'|⟨j,y,hy,e',_,h0,h9⟩
 .exact⟨3,r,UC.still λB b s q w rp m=>DR B b s g w rp m.len.1 (by rw[<-m.fi];exact e'),RC.still λB b r0 w⟨sv,mv,hr⟩rp=>by subst hr;exact(Bf B b _ g w rp (by show r.sh.length≤12;omega) e').mono λe w' h=>⟨h.1,cu h.2⟩,Ok.up⟩
 by_cases h8:9≤y.holds
 .refine⟨5,r,UC.still λB b s q w rp m=>?_,RC.still λB b r0 w⟨sv,mv,hr⟩rp=>by subst hr;exact(Bc B b _ g j y w rp (by show r.sh.length≤12;omega) e' hy h8).mono λe w' h=>⟨h.1,cu h.2⟩,Ok.up⟩;obtain⟨x,hx,hxg,hxh,hxm⟩:=m.spot hy;exact DU B b s g j x w rp m.len.1 (by rw[<-m.fi];exact e') hx (by omega)
 refine⟨0,r.setH j y (y.holds+1),UC.to λB b s q w rp m hq=>?_,RC.to λB b r0 w⟨sv,mv,hr⟩rp=>by subst hr;refine(Js B b _ g j y w rp (by show r.sh.length≤12;omega) e' hy (by omega)).mono ?_;rintro e w' ⟨rfl,rp',f1⟩;exact⟨rfl,_,⟨sv,mv,rfl⟩,rp',f1,λk hk=>Or.inl hk⟩,Ok.setH hy (by omega)⟩;obtain⟨x,hx,hxg,hxh,hxm⟩:=m.spot hy;refine(Kj B b s g j x w rp m.len.1 (by rw[<-m.fi];exact e') hx (by omega) (by have:=m.lg;omega)).mono ?_;rintro e w1 ⟨rfl,lv,rp',f1,o1⟩;exact⟨rfl,_,rp',by rw[hxh];exact m.setH hx hy (by omega) (ou g),f1,nI o1⟩
end
section
variable {B:Nat}{w w' w1 w2 W:World}{b rb:Nat}{s s':aK}{r r' r0:ak}{q:Nat}{F F' SK:List Nat}{f g:Nat}{args:Nat->Array Value}{v:Value}
theorem U9(h:Ok 1000000000 r)(g k:Int)(YV:In64 g):∃c,BC 68 69 (λb=>#[.p b,.i g,.i k]) r (fT c) r:=by
 obtain⟨s1,q1,m1,hq1,hwf⟩:=id h;have l1:=m1.iQ;have l2:=m1.len;have bl:=m1.bl;rcases h.spot g with e'|⟨j,y,hy,e',hyg,h0,h9⟩
 .exact⟨(⟨#[]⟩,3),UC.still λB b s q w rp m=>Ki B b s g k w rp m.len.1 (by rw[<-m.fi];exact e'),RC.still λB b r0 w⟨sv,mv,hr⟩rp=>by subst hr;exact(IW B b _ g k w rp (by show r.sh.length≤12;omega) e').mono λe w' h=>⟨h.1,cu h.2⟩,Ok.up⟩
 by_cases hb:(decide (0≤k)&&decide (k<r.blocks))=false
 .exact⟨(⟨#[]⟩,1),UC.still λB b s q w rp m=>ND B b s g j k w rp m.len.1 (by rw[<-m.fi];exact e') (by rw[<-m.bl.1];exact hb),RC.still λB b r0 w⟨sv,mv,hr⟩rp=>by subst hr;exact(LG B b _ g k j w rp (by show r.sh.length≤12;omega) e' hb).mono λe w' h=>⟨h.1,cu h.2⟩,Ok.up⟩
 have hk:0≤k∧k<r.blocks:=by simpa using hb
 obtain⟨n,rfl⟩:∃n:Nat,k=(n:Int):=⟨k.toNat,by omega⟩;have hym:=eW hy;have hw:=hwf.2.2 y hym;have hd:n<y.dat.length:=by rw[hw.1];omega
 refine⟨(y.dat[n],0),UC.still λB b s q w rp m=>?_,RC.still λB b r0 w⟨sv,mv,hr⟩rp=>by subst hr;exact(PI B b _ g j n y w rp (by show r.sh.length≤12;omega) e' hy (by show n<r.blocks;omega) (by show r.blocks≤16;omega) hw).mono λe w' h=>⟨h.1,cu h.2⟩,Ok.up⟩;obtain⟨x,hx,hxg,hxh,hxm⟩:=m.spot hy;have hn:n<s.aL.length:=by have:=m.bl.1;omega
 have e3:=m.th y hym n hn;rw[hyg,dp hd]at e3;simp only[ip]at e3;rw[e3];exact Rk B b s g n w rp (by have:=m.len.1;omega) YV ⟨x,hxm,by rw[hxg];simpa using hyg⟩ hn m.bl.2.2
theorem Fx.one{n k:Int}(m:dK s r q)(h:Fx s n)(h':DW r k):n=k:=by
 have eg:∀i,1000000*r.id+i=gu s i:=λi=>by unfold gu;have:=m.id.1;omega
 have e2:=m.last;rcases Int.lt_trichotomy n k with hl|he|hl
 .have h1:=h'.no n (by rw[e2];exact h.lo) hl;rw[eg,m.hs,h.yes]at h1;cases h1
 .exact he
 have h1:=h.no k (by rw[<-e2];exact h'.lo) hl;have h2:=h'.yes;rw[eg,m.hs,h1]at h2;cases h2
theorem CV(h:Ok 1000000000 r)(t:Int):∃c r',BC 65 66 (λb=>#[.p b,.i t]) r (fI c) r':=by
 obtain⟨s1,q1,m1,hq1,hwf⟩:=id h;have l1:=m1.iQ;have l2:=m1.len;have l3:=m1.pY;have e1:=m1.last;have e4:=m1.cm;have rn:=m1.rn;have hid:1≤r.id∧r.id≤999:=by rw[m1.id.1];exact m1.id.2
 by_cases ht:t<0∨1073741824<t
 .exact⟨(0,1),r,UC.still λB b s q w rp m=>Gf B b s t w rp ht,RC.still λB b r0 w⟨sv,mv,hr⟩rp=>(DV b t w ht).mono λe w' h=>⟨h.1,cu h.2⟩,Ok.up⟩
 have ht':0≤t∧t≤1073741824:=by omega
 obtain⟨n,hn1,hrn⟩:=m1.next;have hlo:=hn1.lo;have hnx:∀{s q},dK s r q->Fx s n:=λ{s q}m=>by obtain⟨k,hk,Qy⟩:=m.next;have h1:=Fx.one m hk hrn;exact h1▸hk
 by_cases hf:r.sh.length=12∨999999<n
 .exact⟨(0,5),r,UC.still λB b s q w rp m=>DT B b s n t w rp ht' m.id.2 m.cm.2 (hnx m) m.len.1 m.len.2 (by rw[m.iQ]at hf;exact hf),RC.still λB b r0 w⟨sv,mv,hr⟩rp=>by subst hr;exact(Ac B b _ n t w rp ht' hid (by show 0≤r.last∧r.last≤999999;omega) ⟨hrn.1,hrn.2,hrn.3,hrn.4⟩ (by show r.sh.length≤12;omega) (by show r.ms.length≤12;omega) hf).mono λe w' h=>⟨h.1,cu h.2⟩,Ok.up⟩
 have zF:∀{s q},dK s r q->∀sv lv,dK ((s.snap n t sv).noted 83 (n4 t).ba lv) (r.snap n t r.sv) (q+1):=λ{s q}m sv lv=>by
  have hn:=hnx m;have e2:=m.iQ;have e4:=m.cm;have hlo:=hn.lo;have eg:gu s n=1000000*r.id+n:=by have:=m.id.1;unfold gu;omega
  have hg:gu s n∉gls s:=λhm=>by have h8:=(BM (gu s n)).2 hm;rw[hn.yes]at h8;cases h8
  have hgr:1≤gu s n∧gu s n≤999999999:=by have:=m.id.2;unfold gu;omega
  have h9:=m.come (sv:=sv) (lv:=lv) (uU:=r.sv) s.aL rfl r.dat r.born r.now ⟨gm _,by omega⟩ m.dat (λC cc=>cc.vb) (gu s n) t hg hgr ht' (by omega) n (by omega) 83 (tx:=(n4 t).ba) (by have:=ou t;omega);unfold ak.snap;rw[<-eg];exact h9
 refine⟨(1000000*r.id+n,0),r.snap n t r.sv,UC.to λB b s q w rp m hq=>?_,RC.to λB b r0 w⟨sv,mv,hr⟩rp=>?_,λk⟨s,q,m,hq,hw⟩=>⟨_,_,zF m vn vn,by omega,hw.1,hw.2.1,λx hx=>?_⟩⟩
 .have hn:=hnx m;have hl12:=m.len;have e2:=m.iQ;have e4:=m.cm;have hlo:=hn.lo;have hcn:=m.cn;have hbl:=m.bl;refine(J9 B b s n t w rp ht' m.id.2 (by omega) hn (by omega) hl12.2 (by omega) hbl.2.2 (by unfold maxLen;omega) (by have:=m.lg;omega)).mono ?_;rintro e w1 ⟨rfl,sv,lv,rp',f1,o1,o2⟩;have eg:gu s n=1000000*r.id+n:=by have:=m.id.1;unfold gu;omega
  exact⟨by rw[eg];rfl,_,rp',zF m sv lv,f1,qJ rfl rfl o1 (λk hk=>Or.inl hk) o2⟩
 .subst hr;refine(Jm B b _ n t w rp ht' hid (by show 0≤r.last∧n≤999999;omega) ⟨hrn.1,hrn.2,hrn.3,hrn.4⟩ (by show r.sh.length<12;omega) (by show r.ms.length≤12;omega) (by show 0≤r.now∧r.now≤1000000000000;omega)).mono ?_;rintro e w2 ⟨rfl,uU,rr,f2,o3⟩;exact⟨rfl,_,⟨uU,mv,rfl⟩,rr,f2,ku o3 (λk hk=>Or.inl hk)⟩
 rcases dT.1 hx with hx|hx
 .exact hw.2.2 x hx
 have:=j8.1 hx;subst this;exact⟨hw.1,hw.2.1⟩
def UD(zs:List Int)(r:ak)(v:Value)(r':ak):Prop:=
 ∀(B b:Nat)(F:List Nat)(q:Nat)(w:World)(a:Option Addr)(c:Nat),St B w b F r q->q≤1000000000->eU w a zs c->(∀k off,a=some (Ad k off)->0<zs.length->k∉F)->Rc 120 #[.p b,.slice a zs.length c] w v λw'=>∃F',St B w' b F' r' (q+1)∧Gw F F' w w'
def RD(zs:List Int)(r:ak)(v:Value)(r':ak):Prop:=
 ∀(B b:Nat)(F:List Nat)(w:World)(a:Option Addr)(c:Nat),Eb B w b F r->eU w a zs c->(∀k off,a=some (Ad k off)->0<zs.length->k∉F)->Rc 121 #[.p b,.slice a zs.length c] w v λw'=>∃F',Eb B w' b F' r'∧Gw F F' w w'
theorem Ok.destroy{zs:List Int}(hfi:∀k,k<zs.length->aZ (r.sh.map aS.sn) zs k=true)(n:Nat)(h:Ok n r):Ok (n+1) (r.ny (fV r.sh zs) r.sv):=by
 obtain⟨s,q,m,hq,hw⟩:=h;have hf2:∀k,k<zs.length->aZ s.ss zs k=true:=λk hk=>by rw[<-m.fine];exact hfi k hk
 refine⟨_,_,m.destroy (s':={s with ss:=left s.ss zs,log:=s.log++(if zs=[]then[]else entry 68 (lF zs))}) ⟨rfl,rfl,rfl,rfl,rfl,rfl,rfl,λ_ _ _=>rfl,rfl⟩ (by have:=qU hf2;have:=m.len.1;omega) r.sv,by omega,hw.1,hw.2.1,λx hx=>hw.2.2 x ((List.mem_filter.1 hx).1)⟩
theorem tL(h:Ok 1000000000 r)(zs:List Int)(hz:zs.length≤2000000)(hb:∀i,i<zs.length->In64 (tm zs i)):∃c r',(UD zs r (fC c) r'∧RD zs r (fC c) r'∧∀n,Ok n r->Ok (n+1) r')∧(c≠0->r'=r)∧(c=0->∀k,k<zs.length->aZ (r.sh.map aS.sn) zs k=true)∧∀x∈r'.sh,x∈r.sh:=by
 obtain⟨s1,q1,m1,hq1,hwf⟩:=id h;have l1:=m1.iQ;have l2:=m1.len;have YW:=m1.Zj;by_cases hfi:∀k,k<zs.length->aZ (r.sh.map aS.sn) zs k=true
 .by_cases hno:∀k,k<zs.length->dG (r.sh.map aS.sn) zs k=false
  .refine⟨0,r.ny (fV r.sh zs) r.sv,⟨λB b F q w a c⟨s,rp,m,hF⟩hq hrow hnf=>?_,λB b F w a c⟨r0,⟨sv,mv,hr⟩,rp,hF⟩hrow hnf=>?_,Ok.destroy hfi⟩,λh=>absurd rfl h,λ_=>hfi,λx hx=>(List.mem_filter.1 hx).1⟩
   .subst hF;refine(lH B b s a zs c w rp m.len.1 m.bl.2.2 m.nd hrow hz hb hnf (by have:=m.lg;omega)).mono ?_;rintro e w1 ⟨f1,⟨_,⟨j,hj,h1⟩,_⟩|⟨_,_,⟨j,hj,h1⟩,_⟩|⟨rfl,hf2,_,s',d⟩⟩
    .rw[<-m.fine,hfi j hj]at h1;cases h1
    .rw[<-m.held,hno j hj]at h1;cases h1
    exact⟨rfl,_,⟨s',d.rep,m.destroy d.pure (by have:=qU hf2;have:=m.len.1;omega) r.sv,rfl⟩,f1,d.foot⟩
   subst hr;subst hF;refine(kN B b _ a zs c w rp (by show r.sh.length≤12;omega) YW hrow hz hnf).mono ?_;rintro e w2 ⟨f2,⟨_,⟨j,hj,hbad⟩,_⟩|⟨_,_,⟨j,hj,hh⟩,_⟩|⟨rfl,_,_,uU,rr,f3,o3⟩⟩
   .rw[show({r with sv:=sv,mv:=mv}:ak).sh=r.sh from rfl,hfi j hj]at hbad;cases hbad
   .rw[show({r with sv:=sv,mv:=mv}:ak).sh=r.sh from rfl,hno j hj]at hh;cases hh
   exact⟨rfl,_,⟨_,⟨uU,mv,rfl⟩,rr,rfl⟩,f3,ku o3 (λk hk=>Or.inl hk)⟩
  obtain⟨k,hk,hhe⟩:∃k,k<zs.length∧dG (r.sh.map aS.sn) zs k=true:=by
   refine Classical.byContradiction λhn=>hno λk hk=>?_;cases hx:dG (r.sh.map aS.sn) zs k
   .rfl
   exact absurd ⟨k,hk,hx⟩ hn
  refine⟨4,r,⟨λB b F q w a c⟨s,rp,m,hF⟩hq hrow hnf=>?_,λB b F w a c⟨r0,⟨sv,mv,hr⟩,rp,hF⟩hrow hnf=>?_,Ok.up⟩,λ_=>rfl,λh=>absurd h (by decide),λ_ hx=>hx⟩
  .subst hF;refine(lH B b s a zs c w rp m.len.1 m.bl.2.2 m.nd hrow hz hb hnf (by have:=m.lg;omega)).mono ?_;rintro e w1 ⟨f1,⟨_,⟨j,hj,h1⟩,_⟩|⟨rfl,_,_,rp'⟩|⟨_,_,hall,_⟩⟩
   .rw[<-m.fine,hfi j hj]at h1;cases h1
   .exact⟨rfl,_,⟨s,rp',m.le (by omega),rfl⟩,f1,λk hk=>Or.inl hk⟩
   have:=hall k hk;rw[<-m.held,hhe]at this;cases this
  subst hr;subst hF;refine(kN B b _ a zs c w rp (by show r.sh.length≤12;omega) YW hrow hz hnf).mono ?_;rintro e w2 ⟨f2,⟨_,⟨j,hj,hbad⟩,_⟩|⟨rfl,_,_,rr⟩|⟨_,_,hall,_⟩⟩
  .rw[show({r with sv:=sv,mv:=mv}:ak).sh=r.sh from rfl,hfi j hj]at hbad;cases hbad
  .exact⟨rfl,_,⟨_,⟨sv,mv,rfl⟩,rr,rfl⟩,f2,λk hk=>Or.inl hk⟩
  have:=hall k hk;rw[show({r with sv:=sv,mv:=mv}:ak).sh=r.sh from rfl,hhe]at this;cases this
 obtain⟨k,hk,hbad⟩:∃k,k<zs.length∧aZ (r.sh.map aS.sn) zs k=false:=by
  refine Classical.byContradiction λhn=>hfi λk hk=>?_;cases hx:aZ (r.sh.map aS.sn) zs k
  .exact absurd ⟨k,hk,hx⟩ hn
  rfl
 refine⟨3,r,⟨λB b F q w a c⟨s,rp,m,hF⟩hq hrow hnf=>?_,λB b F w a c⟨r0,⟨sv,mv,hr⟩,rp,hF⟩hrow hnf=>?_,Ok.up⟩,λ_=>rfl,λh=>absurd h (by decide),λ_ hx=>hx⟩
 .subst hF;refine(lH B b s a zs c w rp m.len.1 m.bl.2.2 m.nd hrow hz hb hnf (by have:=m.lg;omega)).mono ?_;rintro e w1 ⟨f1,⟨rfl,_,rp'⟩|⟨_,hall,_⟩|⟨_,hall,_⟩⟩
  .exact⟨rfl,_,⟨s,rp',m.le (by omega),rfl⟩,f1,λk hk=>Or.inl hk⟩
  all_goals
   have:=hall k hk;rw[<-m.fine,hbad]at this;cases this
 subst hr;subst hF;refine(kN B b _ a zs c w rp (by show r.sh.length≤12;omega) YW hrow hz hnf).mono ?_;rintro e w2 ⟨f2,⟨rfl,_,rr⟩|⟨_,hall,_⟩|⟨_,hall,_⟩⟩
 .exact⟨rfl,_,⟨_,⟨sv,mv,rfl⟩,rr,rfl⟩,f2,λk hk=>Or.inl hk⟩
 all_goals
  have:=hall k hk;rw[show({r with sv:=sv,mv:=mv}:ak).sh=r.sh from rfl,hbad]at this;cases this
theorem y8(h:Ok 1000000000 r)(g:Int)(hb:In64 g):∃c r',(UD [g] r (fC c) r'∧RD [g] r (fC c) r'∧∀n,Ok n r->Ok (n+1) r')∧(c≠0->r'=r)∧((∀x∈r.sh,x.au≠g)->c≠0)∧∀x∈r'.sh,x∈r.sh:=by
 obtain⟨c,r',h1,h2,h3,h4⟩:=tL h [g] (by simp) (λi hi=>by
  have:i=0:=by simp at hi;omega
  subst this;exact hb)
 refine⟨c,r',h1,h2,λhn hc=>?_,h4⟩;have h5:=h3 hc 0 (by simp);unfold aZ at h5;simp[tm]at h5;obtain⟨x,hx,e⟩:=h5;exact hn x hx (by simpa[mE,aS.sn]using e)
end
def kC(l:List (Nat×Nat×Nat)):List Value:=l.map λx=>.slice (some (Ad x.1 0)) x.2.1 x.2.2
def KR(tag:TypeId)(w:World)(g n:Nat)(m:List Value):Prop:=
 ∃cur,w.heap[g]?=some (.cells cur tag (0,0))∧n*m.length≤cur.size∧∀j,j<n->∀i,i<m.length->cur[j*m.length+i]?=m[i]?
def xq(i:Nat):Int:=-1-4*((i / 4:Nat):Int)
def m3(z:Int):List Value:=[.i z,.i 0,.i 0]
def m1(z:Int):List Value:=[.i z]
structure We where
 sv:Value
 tv:Value
 T:List cC
 D:List Nat
 x1:Value
 x2:Value
 x3:Value
 x4:Value
 x5:Value
structure WM(B:Nat)(w:World)(wb:Nat)(E:We)(kv mv:Value)(K M:List (Nat×Nat×Nat)):Prop where
 blk:w.heap[wb]?=some (.cells #[E.sv,E.tv,kv,mv,E.x1,E.x2,E.x3,E.x4,E.x5] 47 (0,0))
 so:w.ownsRow B 55 1 E.sv E.D.length (E.D.map λd=>.p d)
 ko:w.ownsRow B 85 1 kv K.length (kC K)
 mo:w.ownsRow B 30 1 mv M.length (kC M)
 kk:∀(i:Nat)(x:Nat×Nat×Nat),K[i]?=some x->B≤x.1∧KR 84 w x.1 x.2.1 (m3 (xq i))
 mi:∀(i:Nat)(x:Nat×Nat×Nat),M[i]?=some x->B≤x.1∧KR 3 w x.1 x.2.1 (m1 (xq i))
 hw:B≤wb
 to:w.ownsRow B 9 1 E.tv E.T.length (E.T.map Value.string)
section
variable {B:Nat}{w w':World}{wb:Nat}{E:We}{kv mv:Value}{K M:List (Nat×Nat×Nat)}
theorem KR.lt{tag:TypeId}{g n:Nat}{m:List Value}(h:KR tag w g n m):g<w.heap.size:=by obtain⟨cur,h1,_⟩:=h;exact(cY.1 h1).1
theorem KR.of{tag:TypeId}{g n:Nat}{m:List Value}(h:KR tag w g n m)(e:w'.heap[g]?=w.heap[g]?):KR tag w' g n m:=by obtain⟨cur,h1,h2⟩:=h;exact⟨cur,by rw[e];exact h1,h2⟩
theorem KR.fr{tag:TypeId}{g n:Nat}{m:List Value}{F:List Nat}(h:KR tag w g n m)(hf:Fr F w w')(hn:∀j∈F,∀cur,w.heap[j]?≠some (.cells cur tag (0,0))):KR tag w' g n m:=by have hl:=h.lt;refine h.of (hf.block g hl (λhm=>?_));obtain⟨cur,h1,_⟩:=h;exact hn g hm cur h1
theorem aM{F:List Nat}{base:Nat}{e:TypeId}{size:Nat}{v:Value}{k:Nat}{xs:List Value}(h:w.ownsRow base e size v k xs)(hf:Fr F w w')(ht:∀j∈F,∀cur,w.heap[j]?≠some (.cells cur e (0,0))):w'.ownsRow base e size v k xs:=
 aj h (λj hj=>by obtain⟨_,cur,h4⟩:=av h hj;exact hf.block j (cY.1 h4).1 (λhm=>ht j hm cur h4))
theorem WM.fr(h:WM B w wb E kv mv K M){F:List Nat}(hf:Fr F w w')(ht:∀j∈F,∀cur t,w.heap[j]?=some (.cells cur t (0,0))->t≠47∧t≠55∧t≠85∧t≠30∧t≠84∧t≠3∧t≠9):WM B w' wb E kv mv K M:=
 ⟨by rw[hf.block wb (cY.1 h.blk).1 (λhm=>(ht wb hm _ _ h.blk).1 rfl)];exact h.blk,aM h.so hf (λj hj cur e=>(ht j hj cur _ e).2.1 rfl),aM h.ko hf (λj hj cur e=>(ht j hj cur _ e).2.2.1 rfl),aM h.mo hf (λj hj cur e=>(ht j hj cur _ e).2.2.2.1 rfl),λi x hx=>⟨(h.kk i x hx).1,(h.kk i x hx).2.fr hf (λj hj cur e=>(ht j hj cur _ e).2.2.2.2.1 rfl)⟩,λi x hx=>⟨(h.mi i x hx).1,(h.mi i x hx).2.fr hf (λj hj cur e=>(ht j hj cur _ e).2.2.2.2.2.1 rfl)⟩,h.hw,aM h.to hf (λj hj cur e=>(ht j hj cur _ e).2.2.2.2.2.2 rfl)⟩
theorem WM.same(h:WM B w wb E kv mv K M)(hf:Fr [] w w'):WM B w' wb E kv mv K M:=h.fr hf (by simp)
theorem WM.cells(h:WM B w wb E kv mv K M):w.cell? (Ad wb 0)=some E.sv∧w.cell? (Ad wb 2)=some kv∧w.cell? (Ad wb 3)=some mv∧w.frozen? (Ad wb 2)=false∧w.frozen? (Ad wb 3)=false:=by refine⟨?_,?_,?_,ay h.blk _,ay h.blk _⟩<;>rw[cell_of h.blk]<;>rfl
theorem WM.int(h:WM B w wb E kv mv K M){g:Nat}{cur:Array Value}(hg:w.heap[g]?=some (.cells cur 3 (0,0)))(hf:Fr [g] w w')(hm:∀(i:Nat)(x:Nat×Nat×Nat),M[i]?=some x->x.1=g->KR 3 w' g x.2.1 (m1 (xq i))):WM B w' wb E kv mv K M:=by
 have ht:∀t:TypeId,t≠3->∀j∈[g],∀cur',w.heap[j]?≠some (.cells cur' t (0,0)):=λt ht j hj cur' e=>by
  have hj':j=g:=by simpa using hj
  rw[hj',hg]at e;simp at e;exact ht e.2.symm
 refine⟨by rw[hf.block wb (cY.1 h.blk).1 (λhm=>ht 47 (by decide) wb hm _ h.blk)];exact h.blk,aM h.so hf (ht 55 (by decide)),aM h.ko hf (ht 85 (by decide)),aM h.mo hf (ht 30 (by decide)),λi x hx=>⟨(h.kk i x hx).1,(h.kk i x hx).2.fr hf (ht 84 (by decide))⟩,λi x hx=>⟨(h.mi i x hx).1,?_⟩,h.hw,aM h.to hf (ht 9 (by decide))⟩;by_cases e:x.1=g
 .rw[e];exact hm i x hx e
 have hk:=(h.mi i x hx).2;exact hk.of (hf.block _ hk.lt (by simpa using e))
theorem WM.Y8(h:WM B w wb E kv mv K M){g:Nat}{cur:Array Value}(hg:w.heap[g]?=some (.cells cur 84 (0,0)))(hf:Fr [g] w w')(hm:∀(i:Nat)(x:Nat×Nat×Nat),K[i]?=some x->x.1=g->KR 84 w' g x.2.1 (m3 (xq i))):WM B w' wb E kv mv K M:=by
 have ht:∀t:TypeId,t≠84->∀j∈[g],∀cur',w.heap[j]?≠some (.cells cur' t (0,0)):=λt ht j hj cur' e=>by
  have hj':j=g:=by simpa using hj
  rw[hj',hg]at e;simp at e;exact ht e.2.symm
 refine⟨by rw[hf.block wb (cY.1 h.blk).1 (λhm=>ht 47 (by decide) wb hm _ h.blk)];exact h.blk,aM h.so hf (ht 55 (by decide)),aM h.ko hf (ht 85 (by decide)),aM h.mo hf (ht 30 (by decide)),λi x hx=>⟨(h.kk i x hx).1,?_⟩,λi x hx=>⟨(h.mi i x hx).1,(h.mi i x hx).2.fr hf (ht 3 (by decide))⟩,h.hw,aM h.to hf (ht 9 (by decide))⟩;by_cases e:x.1=g
 .rw[e];exact hm i x hx e
 have hk:=(h.kk i x hx).2;exact hk.of (hf.block _ hk.lt (by simpa using e))
theorem WM.Wj(h:WM B w wb E kv mv K M){w9:World}(hg:w.grownBy w9 mv.ownBlock){x:Nat×Nat×Nat}{mv':Value}(ho:w9.ownsRow B 30 1 mv' (M.length+1) (kC M++[.slice (some (Ad x.1 0)) x.2.1 x.2.2]))(hx:B≤x.1∧KR 3 w x.1 x.2.1 (m1 (xq M.length))):WM B (w9.setCell (Ad wb 3) mv') wb E kv mv' K (M++[x]):=by
 have ht:∀j,mv.ownBlock=some j->∃cur,w.heap[j]?=some (.cells cur 30 (0,0)):=λj hj=>(av h.mo hj).2;have hf:Fr mv.ownBlock.toList w w9:=fR.grown hg (λk hk=>Or.inl (by simp[hk]));have hnF:wb∉mv.ownBlock.toList:=λhm=>by simp at hm;obtain⟨cur,e⟩:=ht wb hm;rw[h.blk]at e;simp at e
 have b9:w9.heap[wb]?=some (.cells #[E.sv,E.tv,kv,mv,E.x1,E.x2,E.x3,E.x4,E.x5] 47 (0,0)):=by rw[hf.block wb (cY.1 h.blk).1 hnF];exact h.blk
 have hf2:Fr (wb::mv.ownBlock.toList) w (w9.setCell (Ad wb 3) mv'):=(hf.mono (λk hk=>j9 _ hk)).setCell _ (Or.inl (by simp));have hno:∀t:TypeId,t≠47->t≠30->∀j∈wb::mv.ownBlock.toList,∀cur,w.heap[j]?≠some (.cells cur t (0,0)):=λt h1 h2 j hj cur e=>by
  rcases ek.1 hj with rfl|hj
  .rw[h.blk]at e;simp at e;exact h1 e.2.symm
  simp at hj;obtain⟨cur',e'⟩:=ht j hj;rw[e']at e;simp at e;exact h2 e.2.symm
 refine⟨by rw[dy _ _ _ _ _ _ b9];rfl,aM h.so hf2 (hno 55 (by decide) (by decide)),aM h.ko hf2 (hno 85 (by decide) (by decide)),?_,λi y hy=>⟨(h.kk i y hy).1,(h.kk i y hy).2.fr hf2 (hno 84 (by decide) (by decide))⟩,λi y hy=>?_,h.hw,aM h.to hf2 (hno 9 (by decide) (by decide))⟩
 .rw[dE,List.length_singleton];have e5:kC (M++[x])=kC M++[.slice (some (Ad x.1 0)) x.2.1 x.2.2]:=by simp[kC]
  rw[e5];refine aj ho (λj hj=>de _ _ _ _ (λe=>?_));obtain⟨_,cur,h4⟩:=av ho hj;rw[e,b9]at h4;simp at h4
 rcases Nat.lt_or_ge i M.length with hi|hi
 .rw[eS hi]at hy;exact⟨(h.mi i y hy).1,(h.mi i y hy).2.fr hf2 (hno 3 (by decide) (by decide))⟩
 have hi2:i<(M++[x]).length:=(df.1 hy).1;rw[dE,List.length_singleton]at hi2;have hi3:i=M.length:=by omega
 subst hi3;rw[eC (eh _)]at hy;have hyx:y=x:=by simpa using hy.symm
 subst hyx;exact⟨hx.1,hx.2.fr hf2 (hno 3 (by decide) (by decide))⟩
theorem WM.Wq(h:WM B w wb E kv mv K M){w9:World}(hg:w.grownBy w9 kv.ownBlock){x:Nat×Nat×Nat}{kv':Value}(ho:w9.ownsRow B 85 1 kv' (K.length+1) (kC K++[.slice (some (Ad x.1 0)) x.2.1 x.2.2]))(hx:B≤x.1∧KR 84 w x.1 x.2.1 (m3 (xq K.length))):WM B (w9.setCell (Ad wb 2) kv') wb E kv' mv (K++[x]) M:=by
 have ht:∀j,kv.ownBlock=some j->∃cur,w.heap[j]?=some (.cells cur 85 (0,0)):=λj hj=>(av h.ko hj).2;have hf:Fr kv.ownBlock.toList w w9:=fR.grown hg (λk hk=>Or.inl (by simp[hk]));have hnF:wb∉kv.ownBlock.toList:=λhm=>by simp at hm;obtain⟨cur,e⟩:=ht wb hm;rw[h.blk]at e;simp at e
 have b9:w9.heap[wb]?=some (.cells #[E.sv,E.tv,kv,mv,E.x1,E.x2,E.x3,E.x4,E.x5] 47 (0,0)):=by rw[hf.block wb (cY.1 h.blk).1 hnF];exact h.blk
 have hf2:Fr (wb::kv.ownBlock.toList) w (w9.setCell (Ad wb 2) kv'):=(hf.mono (λk hk=>j9 _ hk)).setCell _ (Or.inl (by simp));have hno:∀t:TypeId,t≠47->t≠85->∀j∈wb::kv.ownBlock.toList,∀cur,w.heap[j]?≠some (.cells cur t (0,0)):=λt h1 h2 j hj cur e=>by
  rcases ek.1 hj with rfl|hj
  .rw[h.blk]at e;simp at e;exact h1 e.2.symm
  simp at hj;obtain⟨cur',e'⟩:=ht j hj;rw[e']at e;simp at e;exact h2 e.2.symm
 refine⟨by rw[dy _ _ _ _ _ _ b9];rfl,aM h.so hf2 (hno 55 (by decide) (by decide)),?_,aM h.mo hf2 (hno 30 (by decide) (by decide)),λi y hy=>?_,λi y hy=>⟨(h.mi i y hy).1,(h.mi i y hy).2.fr hf2 (hno 3 (by decide) (by decide))⟩,h.hw,aM h.to hf2 (hno 9 (by decide) (by decide))⟩
 .rw[dE,List.length_singleton];have e5:kC (K++[x])=kC K++[.slice (some (Ad x.1 0)) x.2.1 x.2.2]:=by simp[kC]
  rw[e5];refine aj ho (λj hj=>de _ _ _ _ (λe=>?_));obtain⟨_,cur,h4⟩:=av ho hj;rw[e,b9]at h4;simp at h4
 rcases Nat.lt_or_ge i K.length with hi|hi
 .rw[eS hi]at hy;exact⟨(h.kk i y hy).1,(h.kk i y hy).2.fr hf2 (hno 84 (by decide) (by decide))⟩
 have hi2:i<(K++[x]).length:=(df.1 hy).1;rw[dE,List.length_singleton]at hi2;have hi3:i=K.length:=by omega
 subst hi3;rw[eC (eh _)]at hy;have hyx:y=x:=by simpa using hy.symm
 subst hyx;exact⟨hx.1,hx.2.fr hf2 (hno 84 (by decide) (by decide))⟩
end
theorem NJ:(Tryz.prog.info? 30).map (λi=>(i.zero,i.size,i.bytes))=some (some (.slice none 0 0),1,24):=by kernel_rfl
def GI(w:World)(g c ct:Nat)(z:Int):Prop:=∃cur,w.heap[g]?=some (.cells cur 3 (0,0))∧cur.size=ct∧c≤ct∧∀j,j<c->cur[j]?=some (.i z)
theorem GI.kr{w:World}{g c ct:Nat}{z:Int}(h:GI w g c ct z){n:Nat}(hn:n≤c):KR 3 w g n (m1 z):=by
 obtain⟨cur,h1,h2,h3,h4⟩:=h;refine⟨cur,h1,by simp[m1];omega,λj hj i hi=>?_⟩;have hi0:i=0:=by simpa[m1]using hi
 subst hi0;simp only[m1,List.length_singleton,Nat.mul_one,ix];rw[h4 j (by omega)];rfl
structure KJ(B:Nat)(w wr:World)(wb gg:Nat)(E:We)(kv mv:Value)(K M:List (Nat×Nat×Nat))(z:Int)(a c gt ct:Nat)(mv':Value)(N:List (Nat×Nat×Nat)):Prop where
 nl:N.length=a
 wm:WM B wr wb E kv mv' K (M++N)
 nn:∀x∈N,(x.1=gg∨w.heap.size≤x.1)∧x.2.1≤c
 fr:Fr (wb::gg::mv.ownBlock.toList) w wr
 ob:∀k,mv'.ownBlock=some k->mv.ownBlock=some k∨w.heap.size≤k
 go:gt=gg∨w.heap.size≤gt
 gi:GI wr gt c ct z
 bg:B≤gt
section
variable {B:Nat}{w wr:World}{wb gg:Nat}{E:We}{kv mv mv':Value}{K M N:List (Nat×Nat×Nat)}{z:Int}{a c gt ct:Nat}
theorem KJ.same(h:KJ B w wr wb gg E kv mv K M z a c gt ct mv' N){w2:World}(hf:Fr [] wr w2):KJ B w w2 wb gg E kv mv K M z a c gt ct mv' N:=
 ⟨h.nl,h.wm.same hf,h.nn,h.fr.trans hf (by simp),h.ob,h.go,by obtain⟨cur,h1,h2⟩:=h.gi;exact⟨cur,by rw[hf.block _ (cY.1 h1).1 (by simp)];exact h1,h2⟩,h.bg⟩
theorem KJ.keep(h:KJ B w wr wb gg E kv mv K M z a c gt ct mv' N)(hz:xq (M.length+a)=z){w9:World}{Qw:Value}(hg:wr.grownBy w9 mv'.ownBlock)(ho:w9.ownsRow B 30 1 Qw (M.length+a+1) (kC (M++N)++[.slice (some (Ad gt 0)) c ct]))(hat:Qw.ownBlock=mv'.ownBlock∨Qw.ownBlock=some wr.heap.size):
 KJ B w (w9.setCell (Ad wb 3) Qw) wb gg E kv mv K M z (a+1) c gt ct Qw (N++[(gt,c,ct)]):=by
 have hlen:(M++N).length=M.length+a:=by rw[dE,h.nl]
 have hf:Fr (wb::mv'.ownBlock.toList) wr (w9.setCell (Ad wb 3) Qw):=(fR.grown hg (λk hk=>Or.inl (by simp[hk]))).setCell _ (Or.inl (by simp));have hmt:∀j,mv'.ownBlock=some j->∃cur,wr.heap[j]?=some (.cells cur 30 (0,0)):=λj hj=>(av h.wm.mo hj).2;obtain⟨cur,g1,g2⟩:=h.gi;refine⟨by simp[h.nl],?_,λx hx=>?_,?_,λk hk=>?_,h.go,?_,h.bg⟩
 .have W9:=h.wm.Wj (x:=(gt,c,ct)) hg (by rw[hlen];exact ho) ⟨h.bg,by rw[hlen,hz];exact h.gi.kr (eh _)⟩;rw[jj]at W9;exact W9
 .rcases dT.1 hx with hx|hx
  .exact h.nn x hx
  have e:x=(gt,c,ct):=by simpa using hx
  subst e;exact⟨h.go,eh _⟩
 .refine h.fr.trans hf (λk hk=>?_);rcases ek.1 hk with rfl|hk
  .exact Or.inl (by simp)
  simp at hk;rcases h.ob k hk with h1|h1
  .exact Or.inl (by simp[h1])
  exact Or.inr h1
 .rcases hat with e|e
  .exact h.ob k (by rw[<-e];exact hk)
  right;rw[e]at hk;have:=h.fr.size;simp at hk;omega
 refine⟨cur,?_,g2⟩;rw[hf.block _ (cY.1 g1).1 (λhm=>?_)]
 .exact g1
 rcases ek.1 hm with e|hm
 .rw[e,h.wm.blk]at g1;simp at g1
 simp at hm;obtain⟨cur',e'⟩:=hmt gt hm;rw[e']at g1;simp at g1
theorem KJ.room(h:KJ B w wr wb gg E kv mv K M z a c gt ct mv' N)(hz:∀u,u<4->xq (M.length+u)=z)(ha:a≤4)(hM:∀x∈M,x.1≠gg∧x.1<w.heap.size)(hc:c+1≤ct):KJ B w (wr.setCells gt c [.i z]) wb gg E kv mv K M z a (c+1) gt ct mv' N:=by
 obtain⟨cur,g1,g2,g3,g4⟩:=h.gi;obtain⟨cur',k1,k2,k3⟩:=bH [.i z] c wr cur g1;have G:GI (wr.setCells gt c [.i z]) gt (c+1) ct z:=⟨cur',k1,by omega,hc,λj hj=>by
  rw[k3 j (by omega)];by_cases e:j=c
  .subst e;rw[if_pos (by simp)];simp
  rw[if_neg (by simp;omega)];exact g4 j (by omega)⟩
 have hf:Fr [gt] wr (wr.setCells gt c [.i z]):=fR.setCell _ (Or.inl (by simp));refine⟨h.nl,h.wm.int g1 hf (λi x hx e=>?_),λx hx=>⟨(h.nn x hx).1,by have:=(h.nn x hx).2;omega⟩,h.fr.trans hf (λk hk=>?_),h.ob,h.go,G,h.bg⟩
 .rcases Nat.lt_or_ge i M.length with hi|hi
  .exfalso;rw[eS hi]at hx;have:=hM x (eW hx);rcases h.go with e2|e2
   .exact this.1 (e.trans e2)
   omega
  rw[eC hi]at hx;have hn:=(df.1 hx).1;have hz':=hz (i-M.length) (by have:=h.nl;omega);rw[show M.length+(i-M.length)=i by omega]at hz';rw[hz'];exact G.kr (by have:=(h.nn x (eW hx)).2;omega)
 have:k=gt:=by simpa using hk
 subst this;rcases h.go with e2|e2
 .exact Or.inl (by simp[e2])
 exact Or.inr e2
theorem NK{base g c cap:Nat}{xs:List Value}(h:wr.ownsRow base 3 1 (.slice (some (Ad g 0)) c cap) c xs)(hx:∀j,j<c->xs[j]?=some (.i z)):base≤g∧GI wr g c cap z:=by
 rcases h.2 with⟨h1,_⟩|⟨g',cap',cur,h1,hb,hg,hc,hm,hs,ht⟩
 .simp at h1
 simp only[Value.slice.injEq,ip,Addr.mk.injEq,and_true,true_and]at h1;obtain⟨rfl,rfl⟩:=h1;refine⟨hb,cur,hg,by omega,hc,λj hj=>?_⟩;rw[<-hx j hj,<-ht,eQ (by omega),fw]
theorem KJ.olds(h:KJ B w wr wb gg E kv mv K M z a c gt ct mv' N):∀(j:Nat)(u:Value),(List.replicate c (Value.i z))[j]?=some u->wr.cell? (Ad gt (0+j))=some u:=λj u hu=>by
 obtain⟨cur,g1,g2,g3,g4⟩:=h.gi;rw[List.getElem?_replicate]at hu;by_cases e:j<c
 .rw[if_pos e]at hu;rw[eV,cell_of g1,g4 j e];exact hu
 rw[if_neg e]at hu;simp at hu
theorem KJ.spare(h:KJ B w wr wb gg E kv mv K M z a c gt ct mv' N)(hr:c+1≤ct):∀j,j< [Value.i z].length->(wr.cell? (Ad gt (0+c*1+j))).isSome=true∧wr.frozen? (Ad gt (0+c*1+j))=false:=λj hj=>by
 obtain⟨cur,g1,g2,g3,g4⟩:=h.gi;have hj0:j=0:=by simpa using hj
 subst hj0;refine⟨?_,ay g1 _⟩;rw[cell_of g1,ff (by omega)];rfl
theorem KJ.new(h:KJ B w wr wb gg E kv mv K M z a c gt ct mv' N){w':World}{g' cap':Nat}{xs:List Value}(hB:B≤wr.heap.size)(hg:wr.grownBy w' none)(ho:w'.ownsRow wr.heap.size 3 1 (.slice (some (Ad g' 0)) (c+1) cap') (c+1) xs)(hx:∀j,j<c+1->xs[j]?=some (.i z)):KJ B w w' wb gg E kv mv K M z a (c+1) g' cap' mv' N:=by have hf:Fr [] wr w':=fR.grown hg (λk hk=>by simp at hk);have h2:=h.same hf;obtain⟨hb,G⟩:=NK ho hx;have:=h.fr.size;exact⟨h2.nl,h2.wm,λx hx=>⟨(h2.nn x hx).1,by have:=(h2.nn x hx).2;omega⟩,h2.fr,h2.ob,Or.inr (by omega),G,by omega⟩
end
def NM(B:Nat)(w w':World)(wb gg:Nat)(E:We)(kv mv:Value)(K M:List (Nat×Nat×Nat)):Prop:=∃mv' M',M'.length=M.length+4∧WM B w' wb E kv mv' K M'∧Fr (wb::gg::mv.ownBlock.toList) w w'∧(∀x∈M',x∈M∨(x.2.1≤16∧(x.1=gg∨w.heap.size≤x.1)))∧∀k,mv'.ownBlock=some k->mv.ownBlock=some k∨w.heap.size≤k
theorem tX(B wb:Nat)(E:We)(kv mv:Value)(K M:List (Nat×Nat×Nat))(gg n:Nat)(w:World)(h:WM B w wb E kv mv K M)(oP:Array Value)(hg:w.heap[gg]?=some (.cells oP 3 (0,0)))(hs:oP.size=n)(hn:n≤12)(hM:∀x∈M,x.1≠gg)(RP:M.length%4=0)(Wm:M.length≤8000000)(hBg:B≤gg):
 Rc 79 #[.p wb,.slice (some (Ad gg 0)) n n] w (.tuple #[]) λw'=>NM B w w' wb gg E kv mv K M:=by
 obtain⟨i0,hi,hz0,hz1,hz2⟩:=info_parts NJ;obtain⟨i1,hi1,hy0,hy1,hy2⟩:=info_parts info3;obtain⟨L,hL⟩:=eX M.length;obtain⟨z,hz⟩:∃z:Int,-1-(L:Int)=z:=⟨_,rfl⟩;have hzw:IntKind.i64.wrap (-1-(L:Int))=z:=by rw[hz.symm];exact aD ⟨by omega,by omega⟩
 have HZ:Hid (∀u,u<4->xq (M.length+u)=z):=λu hu=>by unfold xq;omega
 have HM:Hid (∀x∈M,x.1≠gg∧x.1<w.heap.size):=λx hx=>by obtain⟨i,hi,e⟩:=List.getElem_of_mem hx;exact⟨hM x hx,(h.mi i x (by rw[dp hi,e])).2.lt⟩
 have HW:=Hj4 h hg hs hL;have Vs:Hid (B≤w.heap.size):=by have h1:=h.hw;have h2:=(cY.1 h.blk).1;exact(by omega:B≤w.heap.size)
 obtain⟨Wn,Wo,RU⟩:=ah h.mo;have c3:w.cell? (Ad wb 3)=some (.slice Wn L Wo):=by rw[<-hL,<-RU];exact h.cells.2.2.1
 have hLz:(L:Int)≤8000000:=by omega
 clear h hg hs hM RP Wm RU hL hz;go_enter Tryz.func79,Tryz.ntmps79;go_wp2;go_loopw [5] (λi wr=>∃k:Nat,k≤n∧i=.i k∧Hid (∃cur:Array Value,wr.heap[gg]?=some (.cells cur 3 (0,0))∧cur.size=n∧(∀j,j<k->cur[j]?=some (.i z))∧Fr [gg] w wr)) (λi _=>n-(intOf i).toNat)
 case atStart=>exact⟨0,dC _,rfl,oP,HW.o.2.1,HW.o.2.2.1,λj hj=>by omega,fR⟩
 obtain⟨k,hk,rfl,HK⟩:=hrel;obtain⟨W3,hW3⟩:=eY wr;subst hW3;obtain⟨cur,k1,k2,k3,k4⟩:=HK.o;by_cases hlt:k<n
 .have hltz:(k:Int)<(n:Int):=by omega
  have k0:(0:Int)≤(k:Int):=by omega
  obtain⟨v0,d1⟩:∃v0,W3.cell? (Ad gg k)=some v0:=⟨cur[k],by rw[cell_of k1,ff (by omega)]⟩;have d2:W3.frozen? (Ad gg k)=false:=ay k1 _;have HN:Hid (∃cur':Array Value,(W3.setCell (Ad gg k) (.i z)).heap[gg]?=some (.cells cur' 3 (0,0))∧cur'.size=n∧(∀j,j<k+1->cur'[j]?=some (.i z))∧Fr [gg] w (W3.setCell (Ad gg k) (.i z))):=by
   refine⟨_,dy W3 gg k _ _ _ k1,by simpa using k2,λj hj=>?_,k4.setCell _ (Or.inl (by simp))⟩;by_cases e:j=k
   .subst e;simp[k2,hlt]
   rw[Array.getElem?_setIfInBounds_ne (by omega)];exact k3 j (by omega)
  clear k1 k2 k3 k4 HK c3;go_wp2;go_roundw
  case rel=>exact⟨k+1,by omega,by go_num,HN⟩
  simp[intOf];omega
 have hkk:k=n:=by omega
 subst hkk;have F7:Hid (KJ B w W3 wb gg E kv mv K M z 0 k gg k mv []):=by refine⟨rfl,?_,by simp,k4.mono (by simp),λj hj=>Or.inl hj,Or.inl rfl,⟨cur,k1,k2,eh _,k3⟩,hBg⟩;rw[gn];exact HW.o.1.int HW.o.2.1 k4 (λi x hx e=>absurd e (HM.o x (eW hx)).1)
 clear k1 k2 k3 k4 HK c3;go_wp2;go_loopw [6,7] (λg i wr=>∃(t gt ct:Nat)(mv':Value)(N:List (Nat×Nat×Nat)),t≤4∧i=.i t∧g=.slice (some (Ad gt 0)) (k+t) ct∧Hid (KJ B w wr wb gg E kv mv K M z t (k+t) gt ct mv' N)) (λ_ i _=>4-(intOf i).toNat)
 case atStart=>exact⟨0,gg,k,mv,[],by omega,rfl,rfl,F7⟩
 obtain⟨t,gt,ct,mv',N,ht,rfl,rfl,HT⟩:=hrel;obtain⟨W4,iI⟩:=eY wr;subst iI;clear F7;obtain⟨n,hnk⟩:=eX k;subst hnk;by_cases NR:t<4
 .have hltz:(t:Int)<4:=by omega
  obtain⟨ma,mc,hmv⟩:=ah HT.o.wm.mo;have hlen:(M++N).length=L+t:=by rw[dE,HT.o.nl,HW.o.2.2.2]
  rw[hlen]at hmv;have NS:Hid (W4.ownsRow B 30 1 (.slice ma (L+t) mc) (L+t) (kC (M++N))):=by have h8:=HT.o.wm.mo;rw[hlen,hmv]at h8;exact h8
  have e3:W4.cell? (Ad wb 3)=some (.slice ma (L+t) mc):=by rw[<-hmv];exact HT.o.wm.cells.2.2.1
  have lB:B≤W4.heap.size:=by have h8:=Vs.o;have h9:=HT.o.fr.size;omega
  have RY:Hid (∀w9,(W4.alloc (.cells #[.slice (some (Ad gt 0)) (k+t) ct] 30)).grownBy w9 (Value.slice ma (L+t) mc).ownBlock->w9.cell? (Ad wb 3)=some (.slice ma (L+t) mc)∧w9.frozen? (Ad wb 3)=false):=λw9 JM=>by
   have W5:=HT.o.wm.same ((Fr.refl [] W4).alloc (.cells #[.slice (some (Ad gt 0)) (k+t) ct] 30));have RZ:=(cY.1 W5.blk).1;have hne:(Value.slice ma (L+t) mc).ownBlock≠some wb:=λe=>by obtain⟨_,cur,h4⟩:=av NS.o e;rw[HT.o.wm.blk]at h4;simp at h4
   have h8:=W5.cells;rw[hmv]at h8;exact⟨(JM.cell_far (Ad wb 3) RZ (Ne.symm hne)).trans h8.2.2.1,(JM.frozen_far (Ad wb 3) RZ (Ne.symm hne)).trans h8.2.2.2.2⟩
  have qZ:Hid (∀w9 v9,(W4.alloc (.cells #[.slice (some (Ad gt 0)) (k+t) ct] 30)).grownBy w9 (Value.slice ma (L+t) mc).ownBlock->w9.ownsRow B 30 1 v9 (L+t+1) (kC (M++N)++[.slice (some (Ad gt 0)) (k+t) ct])->(v9.ownBlock=(Value.slice ma (L+t) mc).ownBlock∨v9.ownBlock=some (W4.alloc (.cells #[.slice (some (Ad gt 0)) (k+t) ct] 30)).heap.size)->KJ B w (w9.setCell (Ad wb 3) v9) wb gg E kv mv K M z (t+1) (k+t) gt ct v9 (N++[(gt,k+t,ct)])):=λw9 v9 h1 h2 h3=>by have h8:=HT.o.same ((Fr.refl [] W4).alloc (.cells #[.slice (some (Ad gt 0)) (k+t) ct] 30));rw[hmv]at h8;exact h8.keep (HZ.o t NR) h1 (by rw[HW.o.2.2.2];exact h2) h3
  clear hmv hlen;by_cases hroom:k+t+1≤ct
  .go_wp2_with (first
    |(at_builtin;refine wpList_append_own_at _ rfl _ _ 36 rfl B 30 i0 _ 1 24 Tryz.underlying36 hi hz0 hz1 hz2 rfl (by omega) (.slice ma (L+t) mc) (L+t) (kC (M++N)) rfl (NS.o.alloc _) (Ad W4.heap.size 0) 1 1 [.slice (some (Ad gt 0)) (k+t) ct] rfl rfl (World.news_of_block (cs:=#[.slice (some (Ad gt 0)) (k+t) ct]) (t:=30) (fr:=(0,0)) (di W4 _)) (by simp[Value.oneCell']) (by unfold maxLen;omega) (by omega) (by simp;omega) ?_;intro v9 w9 aH aJ _ iL;obtain⟨iM,iN,ni⟩:=ah aH;subst ni;obtain⟨c93,z93⟩:=RY.o w9 aJ;have H9:Hid (KJ B w ((w9.setCell (Ad wb 3) (.slice iM (L+t+1) iN)).alloc (.cells #[.i z] 3)) wb gg E kv mv K M z (t+1) (k+t) gt ct (.slice iM (L+t+1) iN) (N++[(gt,k+t,ct)])):=(qZ.o w9 _ aJ aH iL).same (fR.alloc _);clear aH aJ iL)
    |(at_builtin;refine wpList_append_arg ((w9.setCell (Ad wb 3) (.slice iM (L+t+1) iN)).alloc (.cells #[.i z] 3)) rfl _ _ 30 rfl 3 i1 _ 1 8 Tryz.underlying30 hi1 hy0 hy1 hy2 rfl (by omega) gt 0 (k+t) ct (List.replicate (k+t) (.i z)) rfl (by simp) H9.o.olds (Ad w9.heap.size 0) 1 1 [.i z] rfl rfl (World.news_of_block (cs:=#[.i z]) (t:=3) (fr:=(0,0)) (by have h8:=di (w9.setCell (Ad wb 3) (.slice iM (L+t+1) iN)) (.cells #[.i z] 3);rw[World.size_setCell]at h8;exact h8)) (by simp[Value.oneCell']) (λhr=>H9.o.spare hr) (by unfold maxLen;omega) (by omega) (λ_=>?_) (λhr=>absurd hr (by omega))))
   have kW:=Hd (H9.o.room HZ.o (by omega) HM.o hroom);go_roundw
   case rel=>exact⟨t+1,gt,ct,_,_,by omega,by go_num,rfl,kW⟩
   simp[intOf];omega
  go_wp2_with (first
   |(at_builtin;refine wpList_append_own_at _ rfl _ _ 36 rfl B 30 i0 _ 1 24 Tryz.underlying36 hi hz0 hz1 hz2 rfl (by omega) (.slice ma (L+t) mc) (L+t) (kC (M++N)) rfl (NS.o.alloc _) (Ad W4.heap.size 0) 1 1 [.slice (some (Ad gt 0)) (k+t) ct] rfl rfl (World.news_of_block (cs:=#[.slice (some (Ad gt 0)) (k+t) ct]) (t:=30) (fr:=(0,0)) (di W4 _)) (by simp[Value.oneCell']) (by unfold maxLen;omega) (by omega) (by simp;omega) ?_;intro v9 w9 aH aJ _ iL;obtain⟨iM,iN,ni⟩:=ah aH;subst ni;obtain⟨c93,z93⟩:=RY.o w9 aJ;have H9:Hid (KJ B w ((w9.setCell (Ad wb 3) (.slice iM (L+t+1) iN)).alloc (.cells #[.i z] 3)) wb gg E kv mv K M z (t+1) (k+t) gt ct (.slice iM (L+t+1) iN) (N++[(gt,k+t,ct)])):=(qZ.o w9 _ aJ aH iL).same (fR.alloc _);clear aH aJ iL)
   |(at_builtin;refine wpList_append_arg ((w9.setCell (Ad wb 3) (.slice iM (L+t+1) iN)).alloc (.cells #[.i z] 3)) rfl _ _ 30 rfl 3 i1 _ 1 8 Tryz.underlying30 hi1 hy0 hy1 hy2 rfl (by omega) gt 0 (k+t) ct (List.replicate (k+t) (.i z)) rfl (by simp) H9.o.olds (Ad w9.heap.size 0) 1 1 [.i z] rfl rfl (World.news_of_block (cs:=#[.i z]) (t:=3) (fr:=(0,0)) (by have h8:=di (w9.setCell (Ad wb 3) (.slice iM (L+t+1) iN)) (.cells #[.i z] 3);rw[World.size_setCell]at h8;exact h8)) (by simp[Value.oneCell']) (λhr=>H9.o.spare hr) (by unfold maxLen;omega) (by omega) (λhr=>absurd hr (by omega)) (λ_=>?_);intro vA wA rz rA;obtain⟨gA,cA,Wp⟩:∃gA cA,vA=.slice (some (Ad gA 0)) (k+t+1) cA:=(by rcases rz.2 with⟨_,h0⟩|⟨gA,cA,_,h0,_⟩;(· omega);(· exact⟨gA,cA,h0⟩));subst Wp;have kW:=Hd (H9.o.new (by have h8:=Vs.o;have h9:=H9.o.fr.size;omega) rA rz (λj hj=>by rw[<-List.replicate_succ',List.getElem?_replicate,if_pos hj]));clear rz rA))
  go_roundw
  case rel=>exact⟨t+1,gA,cA,_,_,by omega,by go_num,rfl,kW⟩
  simp[intOf];omega
 have NT:t=4:=by omega
 subst NT;go_wp2;go_end0;exact⟨rfl,mv',M++N,by rw[dE,HT.o.nl],HT.o.wm,HT.o.fr,λx hx=>by
  rcases dT.1 hx with h|h
  .exact Or.inl h
  exact Or.inr ⟨by have:=(HT.o.nn x h).2;omega,(HT.o.nn x h).1⟩,HT.o.ob⟩
theorem NU:(Tryz.prog.info? 85).map (λi=>(i.zero,i.size,i.bytes))=some (some (.slice none 0 0),1,24):=by kernel_rfl
def GS(w:World)(g c ct:Nat)(z:Int):Prop:=∃cur,w.heap[g]?=some (.cells cur 84 (0,0))∧cur.size=ct*3∧c≤ct∧∀j,j<c->∀i,i<3->cur[j*3+i]?=(m3 z)[i]?
theorem GS.kr{w:World}{g c ct:Nat}{z:Int}(h:GS w g c ct z){n:Nat}(hn:n≤c):KR 84 w g n (m3 z):=by obtain⟨cur,h1,h2,h3,h4⟩:=h;exact⟨cur,h1,by simp[m3];omega,λj hj i hi=>h4 j (by omega) i hi⟩
def BX(z:Int)(c:Nat):List Value:=(List.replicate c (m3 z)).flatten
theorem vM(z:Int)(c:Nat):(BX z c).length=c*3:=by
 induction c with
 |zero=>rfl
 |succ c ih=>simp only[BX,List.replicate_succ,List.flatten_cons,dE]at ih⊢;rw[ih];simp[m3];omega
theorem Gj(z:Int)(c:Nat):BX z c++m3 z=BX z (c+1):=by simp[BX,List.replicate_succ',List.flatten_append]
theorem vO(z:Int):∀(c j i:Nat),j<c->i<3->(BX z c)[j*3+i]?=(m3 z)[i]?
 |0,_,_,h,_=>by omega
 |c+1,0,i,_,hi=>by simp only[BX,List.replicate_succ,List.flatten_cons,Nat.zero_mul,eV];rw[eS (by simp[m3];exact hi)]
 |c+1,j+1,i,h,hi=>by have ih:=vO z c j i (by omega) hi;simp only[BX,List.replicate_succ,List.flatten_cons]at ih⊢;rw[eC (by simp[m3];omega),show(j+1)*3+i-(m3 z).length=j*3+i by simp[m3];omega];exact ih
theorem Ko{w:World}{g c ct:Nat}{z:Int}(h:GS w g c ct z)(t:Nat)(ht:t<c*3):w.cell? (Ad g t)=(BX z c)[t]?:=by
 obtain⟨cur,h1,h2,h3,h4⟩:=h;have e:t=t / 3*3+t%3:=by omega
 rw[cell_of h1,e,h4 (t / 3) (by omega) (t%3) (by omega),vO z c (t / 3) (t%3) (by omega) (by omega)]
structure rC(B:Nat)(w wr:World)(wb gg:Nat)(E:We)(mv kv:Value)(M K:List (Nat×Nat×Nat))(z:Int)(a c gt ct:Nat)(kv':Value)(N:List (Nat×Nat×Nat)):Prop where
 nl:N.length=a
 wm:WM B wr wb E kv' mv (K++N) M
 nn:∀x∈N,(x.1=gg∨w.heap.size≤x.1)∧x.2.1≤c
 fr:Fr (wb::gg::kv.ownBlock.toList) w wr
 ob:∀k,kv'.ownBlock=some k->kv.ownBlock=some k∨w.heap.size≤k
 go:gt=gg∨w.heap.size≤gt
 gi:GS wr gt c ct z
 bg:B≤gt
section
variable {B:Nat}{w wr:World}{wb gg:Nat}{E:We}{mv kv kv':Value}{M K N:List (Nat×Nat×Nat)}{z:Int}{a c gt ct:Nat}
theorem rC.same(h:rC B w wr wb gg E mv kv M K z a c gt ct kv' N){w2:World}(hf:Fr [] wr w2):rC B w w2 wb gg E mv kv M K z a c gt ct kv' N:=
 ⟨h.nl,h.wm.same hf,h.nn,h.fr.trans hf (by simp),h.ob,h.go,by obtain⟨cur,h1,h2⟩:=h.gi;exact⟨cur,by rw[hf.block _ (cY.1 h1).1 (by simp)];exact h1,h2⟩,h.bg⟩
theorem rC.keep(h:rC B w wr wb gg E mv kv M K z a c gt ct kv' N)(hz:xq (K.length+a)=z){w9:World}{Qx:Value}(hg:wr.grownBy w9 kv'.ownBlock)(ho:w9.ownsRow B 85 1 Qx (K.length+a+1) (kC (K++N)++[.slice (some (Ad gt 0)) c ct]))(hat:Qx.ownBlock=kv'.ownBlock∨Qx.ownBlock=some wr.heap.size):
 rC B w (w9.setCell (Ad wb 2) Qx) wb gg E mv kv M K z (a+1) c gt ct Qx (N++[(gt,c,ct)]):=by
 have hlen:(K++N).length=K.length+a:=by rw[dE,h.nl]
 have hf:Fr (wb::kv'.ownBlock.toList) wr (w9.setCell (Ad wb 2) Qx):=(fR.grown hg (λk hk=>Or.inl (by simp[hk]))).setCell _ (Or.inl (by simp));have hmt:∀j,kv'.ownBlock=some j->∃cur,wr.heap[j]?=some (.cells cur 85 (0,0)):=λj hj=>(av h.wm.ko hj).2;obtain⟨cur,g1,g2⟩:=h.gi;refine⟨by simp[h.nl],?_,λx hx=>?_,?_,λk hk=>?_,h.go,?_,h.bg⟩
 .have W9:=h.wm.Wq (x:=(gt,c,ct)) hg (by rw[hlen];exact ho) ⟨h.bg,by rw[hlen,hz];exact h.gi.kr (eh _)⟩;rw[jj]at W9;exact W9
 .rcases dT.1 hx with hx|hx
  .exact h.nn x hx
  have e:x=(gt,c,ct):=by simpa using hx
  subst e;exact⟨h.go,eh _⟩
 .refine h.fr.trans hf (λk hk=>?_);rcases ek.1 hk with rfl|hk
  .exact Or.inl (by simp)
  simp at hk;rcases h.ob k hk with h1|h1
  .exact Or.inl (by simp[h1])
  exact Or.inr h1
 .rcases hat with e|e
  .exact h.ob k (by rw[<-e];exact hk)
  right;rw[e]at hk;have:=h.fr.size;simp at hk;omega
 refine⟨cur,?_,g2⟩;rw[hf.block _ (cY.1 g1).1 (λhm=>?_)]
 .exact g1
 rcases ek.1 hm with e|hm
 .rw[e,h.wm.blk]at g1;simp at g1
 simp at hm;obtain⟨cur',e'⟩:=hmt gt hm;rw[e']at g1;simp at g1
theorem rC.room(h:rC B w wr wb gg E mv kv M K z a c gt ct kv' N)(hz:∀u,u<4->xq (K.length+u)=z)(ha:a≤4)(hM:∀x∈K,x.1≠gg∧x.1<w.heap.size)(hc:c+1≤ct):rC B w (wr.setCells gt (c*3) (m3 z)) wb gg E mv kv M K z a (c+1) gt ct kv' N:=by
 obtain⟨cur,g1,g2,g3,g4⟩:=h.gi;obtain⟨cur',k1,k2,k3⟩:=bH (m3 z) (c*3) wr cur g1;have hml:(m3 z).length=3:=rfl;have G:GS (wr.setCells gt (c*3) (m3 z)) gt (c+1) ct z:=⟨cur',k1,by omega,hc,λj hj i hi=>by
  rw[k3 (j*3+i) (by omega)];by_cases e:j=c
  .subst e;rw[if_pos (by rw[hml];omega),Nat.add_sub_cancel_left]
  rw[if_neg (by omega)];exact g4 j (by omega) i hi⟩
 have hf:Fr [gt] wr (wr.setCells gt (c*3) (m3 z)):=((fR.setCell _ (Or.inl (by simp))).setCell _ (Or.inl (by simp))).setCell _ (Or.inl (by simp));refine⟨h.nl,h.wm.Y8 g1 hf (λi x hx e=>?_),λx hx=>⟨(h.nn x hx).1,by have:=(h.nn x hx).2;omega⟩,h.fr.trans hf (λk hk=>?_),h.ob,h.go,G,h.bg⟩
 .rcases Nat.lt_or_ge i K.length with hi|hi
  .exfalso;rw[eS hi]at hx;have:=hM x (eW hx);rcases h.go with e2|e2
   .exact this.1 (e.trans e2)
   omega
  rw[eC hi]at hx;have hn:=(df.1 hx).1;have hz':=hz (i-K.length) (by have:=h.nl;omega);rw[show K.length+(i-K.length)=i by omega]at hz';rw[hz'];exact G.kr (by have:=(h.nn x (eW hx)).2;omega)
 have:k=gt:=by simpa using hk
 subst this;rcases h.go with e2|e2
 .exact Or.inl (by simp[e2])
 exact Or.inr e2
theorem NV{base g c cap:Nat}{xs:List Value}(h:wr.ownsRow base 84 3 (.slice (some (Ad g 0)) c cap) c xs)(hx:xs=BX z c):base≤g∧GS wr g c cap z:=by
 rcases h.2 with⟨h1,_⟩|⟨g',cap',cur,h1,hb,hg,hc,hm,hs,ht⟩
 .simp at h1
 simp only[Value.slice.injEq,ip,Addr.mk.injEq,and_true,true_and]at h1;obtain⟨rfl,rfl⟩:=h1;refine⟨hb,cur,hg,by omega,hc,λj hj i hi=>?_⟩;rw[<-vO z c j i hj hi,<-hx,<-ht,eQ (by omega),fw]
theorem rC.olds(h:rC B w wr wb gg E mv kv M K z a c gt ct kv' N):∀(j:Nat)(u:Value),(BX z c)[j]?=some u->wr.cell? (Ad gt (0+j))=some u:=λj u hu=>by have hj:=(df.1 hu).1;rw[vM]at hj;rw[eV,Ko h.gi j hj];exact hu
theorem rC.spare(h:rC B w wr wb gg E mv kv M K z a c gt ct kv' N)(hr:c+1≤ct):∀j,j<(m3 z).length->(wr.cell? (Ad gt (0+c*3+j))).isSome=true∧wr.frozen? (Ad gt (0+c*3+j))=false:=λj hj=>by
 obtain⟨cur,g1,g2,g3,g4⟩:=h.gi;have hj0:j<3:=by simpa[m3]using hj
 refine⟨?_,ay g1 _⟩;rw[cell_of g1,ff (by omega)];rfl
theorem rC.new(h:rC B w wr wb gg E mv kv M K z a c gt ct kv' N){w':World}{g' cap':Nat}{xs:List Value}(hB:B≤wr.heap.size)(hg:wr.grownBy w' none)(ho:w'.ownsRow wr.heap.size 84 3 (.slice (some (Ad g' 0)) (c+1) cap') (c+1) xs)(hx:xs=BX z (c+1)):rC B w w' wb gg E mv kv M K z a (c+1) g' cap' kv' N:=by have hf:Fr [] wr w':=fR.grown hg (λk hk=>by simp at hk);have h2:=h.same hf;obtain⟨hb,G⟩:=NV ho hx;have:=h.fr.size;exact⟨h2.nl,h2.wm,λx hx=>⟨(h2.nn x hx).1,by have:=(h2.nn x hx).2;omega⟩,h2.fr,h2.ob,Or.inr (by omega),G,by omega⟩
end
def NY(B:Nat)(w w':World)(wb gg:Nat)(E:We)(mv kv:Value)(M K:List (Nat×Nat×Nat)):Prop:=∃kv' K',K'.length=K.length+4∧WM B w' wb E kv' mv K' M∧Fr (wb::gg::kv.ownBlock.toList) w w'∧(∀x∈K',x∈K∨(x.2.1≤16∧(x.1=gg∨w.heap.size≤x.1)))∧∀k,kv'.ownBlock=some k->kv.ownBlock=some k∨w.heap.size≤k
theorem tY(B wb:Nat)(E:We)(mv kv:Value)(M K:List (Nat×Nat×Nat))(gg n:Nat)(w:World)(h:WM B w wb E kv mv K M)(oP:Array Value)(hg:w.heap[gg]?=some (.cells oP 84 (0,0)))(hs:oP.size=n*3)(hn:n≤12)(hM:∀x∈K,x.1≠gg)(RP:K.length%4=0)(Wm:K.length≤8000000)(hBg:B≤gg):
 Rc 67 #[.p wb,.slice (some (Ad gg 0)) n n] w (.tuple #[]) λw'=>NY B w w' wb gg E mv kv M K:=by
 obtain⟨i0,hi,hz0,hz1,hz2⟩:=info_parts NU;obtain⟨i1,hi1,hy0,hy1,hy2⟩:=info_parts vG;obtain⟨L,hL⟩:=eX K.length;obtain⟨z,hz⟩:∃z:Int,-1-(L:Int)=z:=⟨_,rfl⟩;have hzw:IntKind.i64.wrap (-1-(L:Int))=z:=by rw[hz.symm];exact aD ⟨by omega,by omega⟩
 have HZ:Hid (∀u,u<4->xq (K.length+u)=z):=λu hu=>by unfold xq;omega
 have HM:Hid (∀x∈K,x.1≠gg∧x.1<w.heap.size):=λx hx=>by obtain⟨i,hi,e⟩:=List.getElem_of_mem hx;exact⟨hM x hx,(h.kk i x (by rw[dp hi,e])).2.lt⟩
 have HW:=Hj4 h hg hs hL;have Vs:Hid (B≤w.heap.size):=by have h1:=h.hw;have h2:=(cY.1 h.blk).1;exact(by omega:B≤w.heap.size)
 obtain⟨Wn,Wo,R9⟩:=ah h.ko;have c3:w.cell? (Ad wb 2)=some (.slice Wn L Wo):=by rw[<-hL,<-R9];exact h.cells.2.1
 have hLz:(L:Int)≤8000000:=by omega
 clear h hg hs hM RP Wm R9 hL hz;go_enter Tryz.func67,Tryz.ntmps67;go_wp2;obtain⟨W1,hW1⟩:=eX (w.alloc (.cells #[.i z,.i 0,.i 0] 84));obtain⟨mb,hmb⟩:=eX w.heap.size;have f1:Fr [] w W1:=by rw[<-hW1];exact fR.alloc _
 have b1:W1.heap[mb]?=some (.cells #[.i z,.i 0,.i 0] 84 (0,0)):=by rw[<-hW1,<-hmb];exact di w _
 have hgl:gg<w.heap.size:=(cY.1 HW.o.2.1).1;have tN:=Hd f1;have HV:Hid (WM B W1 wb E kv mv K M∧W1.heap[gg]?=some (.cells oP 84 (0,0))∧oP.size=n*3∧K.length=L∧(∀x∈K,x.1≠gg∧x.1<W1.heap.size)∧B≤W1.heap.size):=⟨HW.o.1.same f1,by rw[f1.block gg hgl (by simp)];exact HW.o.2.1,HW.o.2.2.1,HW.o.2.2.2,λx hx=>⟨(HM.o x hx).1,hI (HM.o x hx).2 f1.size⟩,eJ Vs.o f1.size⟩;have Ws:Hid (∀wr,Fr (wb::gg::kv.ownBlock.toList) W1 wr->wr.cell? (Ad mb 0)=some (.i z)∧wr.cell? (Ad mb 1)=some (.i 0)∧wr.cell? (Ad mb 2)=some (.i 0)):=λwr hf=>by
  have hb:wr.heap[mb]?=some (.cells #[.i z,.i 0,.i 0] 84 (0,0)):=by
   rw[hf.block mb (cY.1 b1).1 (λhm=>?_)]
   .exact b1
   rcases ek.1 hm with e|hm
   .have h8:=HV.o.1.blk;rw[<-e,b1]at h8;simp at h8
   rcases ek.1 hm with e|hm
   .omega
   simp at hm;obtain⟨_,cur,h8⟩:=av HV.o.1.ko hm;rw[b1]at h8;simp at h8
  refine⟨?_,?_,?_⟩<;>rw[cell_of hb]<;>rfl
 rw[hW1,hmb];clear hW1 hmb f1 b1 hgl c3;go_loopw [5] (λi wr=>∃k:Nat,k≤n∧i=.i k∧Hid (∃cur:Array Value,wr.heap[gg]?=some (.cells cur 84 (0,0))∧cur.size=n*3∧(∀j,j<k->∀i,i<3->cur[j*3+i]?=(m3 z)[i]?)∧Fr [gg] W1 wr)) (λi _=>n-(intOf i).toNat)
 case atStart=>exact⟨0,dC _,rfl,oP,HV.o.2.1,HV.o.2.2.1,λj hj=>by omega,fR⟩
 obtain⟨k,hk,rfl,HK⟩:=hrel;obtain⟨W3,hW3⟩:=eY wr;subst hW3;obtain⟨cur,k1,k2,k3,k4⟩:=HK.o;by_cases hlt:k<n
 .have hltz:(k:Int)<(n:Int):=by omega
  have k0:(0:Int)≤(k:Int):=by omega
  obtain⟨v0,d0⟩:∃v0,W3.cell? (Ad gg (k*3))=some v0:=⟨cur[k*3],by rw[cell_of k1,ff (by omega)]⟩;obtain⟨v1,d1⟩:∃v0,W3.cell? (Ad gg (k*3+1))=some v0:=⟨cur[k*3+1],by rw[cell_of k1,ff (by omega)]⟩;obtain⟨v2,d2⟩:∃v0,W3.cell? (Ad gg (k*3+2))=some v0:=⟨cur[k*3+2],by rw[cell_of k1,ff (by omega)]⟩;have e0:W3.frozen? (Ad gg (k*3))=false:=ay k1 _;have e1:W3.frozen? (Ad gg (k*3+1))=false:=ay k1 _;have e2:W3.frozen? (Ad gg (k*3+2))=false:=ay k1 _;have HN:Hid (∃cur':Array Value,(W3.setCells gg (k*3) (m3 z)).heap[gg]?=some (.cells cur' 84 (0,0))∧cur'.size=n*3∧(∀j,j<k+1->∀i,i<3->cur'[j*3+i]?=(m3 z)[i]?)∧Fr [gg] W1 (W3.setCells gg (k*3) (m3 z))):=by
   obtain⟨cur',r1,r2,r3⟩:=bH (m3 z) (k*3) W3 cur k1;have hml:(m3 z).length=3:=rfl;refine⟨cur',r1,by omega,λj hj i hi=>?_,((k4.setCell _ (Or.inl (by simp))).setCell _ (Or.inl (by simp))).setCell _ (Or.inl (by simp))⟩;rw[r3 (j*3+i) (by omega)];by_cases e:j=k
   .subst e;rw[if_pos (by rw[hml];omega),Nat.add_sub_cancel_left]
   rw[if_neg (by omega)];exact k3 j (by omega) i hi
  obtain⟨x0,x1,x2⟩:=Ws.o W3 (k4.mono (by simp));clear k1 k2 k3 k4 HK;go_wp2;go_roundw
  case rel=>exact⟨k+1,by omega,by go_num,HN⟩
  simp[intOf];omega
 have hkk:k=n:=by omega
 subst hkk;have F7:Hid (rC B W1 W3 wb gg E mv kv M K z 0 k gg k kv []):=by refine⟨rfl,?_,by simp,k4.mono (by simp),λj hj=>Or.inl hj,Or.inl rfl,⟨cur,k1,k2,eh _,k3⟩,hBg⟩;rw[gn];exact HV.o.1.Y8 HV.o.2.1 k4 (λi x hx e=>absurd e (HV.o.2.2.2.2.1 x (eW hx)).1)
 clear k1 k2 k3 k4 HK;go_wp2;go_loopw [6,7] (λg i wr=>∃(t gt ct:Nat)(kv':Value)(N:List (Nat×Nat×Nat)),t≤4∧i=.i t∧g=.slice (some (Ad gt 0)) (k+t) ct∧Hid (rC B W1 wr wb gg E mv kv M K z t (k+t) gt ct kv' N)) (λ_ i _=>4-(intOf i).toNat)
 case atStart=>exact⟨0,gg,k,kv,[],by omega,rfl,rfl,F7⟩
 obtain⟨t,gt,ct,kv',N,ht,rfl,rfl,HT⟩:=hrel;obtain⟨W4,iI⟩:=eY wr;subst iI;clear F7;obtain⟨n,hnk⟩:=eX k;subst hnk;by_cases NR:t<4
 .have hltz:(t:Int)<4:=by omega
  obtain⟨ma,mc,hkv⟩:=ah HT.o.wm.ko;have hlen:(K++N).length=L+t:=by rw[dE,HT.o.nl,HV.o.2.2.2.1]
  rw[hlen]at hkv;have NS:Hid (W4.ownsRow B 85 1 (.slice ma (L+t) mc) (L+t) (kC (K++N))):=by have h8:=HT.o.wm.ko;rw[hlen,hkv]at h8;exact h8
  have e3:W4.cell? (Ad wb 2)=some (.slice ma (L+t) mc):=by rw[<-hkv];exact HT.o.wm.cells.2.1
  have lB:B≤W4.heap.size:=by have h8:=HV.o.2.2.2.2.2;have h9:=HT.o.fr.size;omega
  have RY:Hid (∀w9,(W4.alloc (.cells #[.slice (some (Ad gt 0)) (k+t) ct] 85)).grownBy w9 (Value.slice ma (L+t) mc).ownBlock->w9.cell? (Ad wb 2)=some (.slice ma (L+t) mc)∧w9.frozen? (Ad wb 2)=false):=λw9 JM=>by
   have W5:=HT.o.wm.same ((Fr.refl [] W4).alloc (.cells #[.slice (some (Ad gt 0)) (k+t) ct] 85));have RZ:=(cY.1 W5.blk).1;have hne:(Value.slice ma (L+t) mc).ownBlock≠some wb:=λe=>by obtain⟨_,cur,h4⟩:=av NS.o e;rw[HT.o.wm.blk]at h4;simp at h4
   have h8:=W5.cells;rw[hkv]at h8;exact⟨(JM.cell_far (Ad wb 2) RZ (Ne.symm hne)).trans h8.2.1,(JM.frozen_far (Ad wb 2) RZ (Ne.symm hne)).trans h8.2.2.2.1⟩
  have qZ:Hid (∀w9 v9,(W4.alloc (.cells #[.slice (some (Ad gt 0)) (k+t) ct] 85)).grownBy w9 (Value.slice ma (L+t) mc).ownBlock->w9.ownsRow B 85 1 v9 (L+t+1) (kC (K++N)++[.slice (some (Ad gt 0)) (k+t) ct])->(v9.ownBlock=(Value.slice ma (L+t) mc).ownBlock∨v9.ownBlock=some (W4.alloc (.cells #[.slice (some (Ad gt 0)) (k+t) ct] 85)).heap.size)->rC B W1 (w9.setCell (Ad wb 2) v9) wb gg E mv kv M K z (t+1) (k+t) gt ct v9 (N++[(gt,k+t,ct)])):=λw9 v9 h1 h2 h3=>by have h8:=HT.o.same ((Fr.refl [] W4).alloc (.cells #[.slice (some (Ad gt 0)) (k+t) ct] 85));rw[hkv]at h8;exact h8.keep (HZ.o t NR) h1 (by rw[HV.o.2.2.2.1];exact h2) h3
  clear hkv hlen;by_cases hroom:k+t+1≤ct
  .go_wp2_with (first
    |(at_builtin;refine wpList_append_own_at _ rfl _ _ 35 rfl B 85 i0 _ 1 24 Tryz.underlying35 hi hz0 hz1 hz2 rfl (by omega) (.slice ma (L+t) mc) (L+t) (kC (K++N)) rfl (NS.o.alloc _) (Ad W4.heap.size 0) 1 1 [.slice (some (Ad gt 0)) (k+t) ct] rfl rfl (World.news_of_block (cs:=#[.slice (some (Ad gt 0)) (k+t) ct]) (t:=85) (fr:=(0,0)) (di W4 _)) (by simp[Value.oneCell']) (by unfold maxLen;omega) (by omega) (by simp;omega) ?_;intro v9 w9 aH aJ _ iL;obtain⟨iM,iN,ni⟩:=ah aH;subst ni;obtain⟨c93,z93⟩:=RY.o w9 aJ;have H9:Hid (rC B W1 ((w9.setCell (Ad wb 2) (.slice iM (L+t+1) iN)).alloc (.cells #[.i z,.i 0,.i 0] 84)) wb gg E mv kv M K z (t+1) (k+t) gt ct (.slice iM (L+t+1) iN) (N++[(gt,k+t,ct)])):=(qZ.o w9 _ aJ aH iL).same (fR.alloc _);obtain⟨x0,x1,x2⟩:=Ws.o _ (qZ.o w9 _ aJ aH iL).fr;clear aH aJ iL)
    |(at_builtin;refine wpList_append_arg ((w9.setCell (Ad wb 2) (.slice iM (L+t+1) iN)).alloc (.cells #[.i z,.i 0,.i 0] 84)) rfl _ _ 85 rfl 84 i1 _ 3 24 Tryz.underlying85 hi1 hy0 hy1 hy2 rfl (by omega) gt 0 (k+t) ct (BX z (k+t)) rfl (vM z _) H9.o.olds (Ad w9.heap.size 0) 1 1 (m3 z) rfl rfl (World.news_of_block (cs:=#[.i z,.i 0,.i 0]) (t:=84) (fr:=(0,0)) (by have h8:=di (w9.setCell (Ad wb 2) (.slice iM (L+t+1) iN)) (.cells #[.i z,.i 0,.i 0] 84);rw[World.size_setCell]at h8;exact h8)) (by simp[m3,Value.oneCell']) (λhr=>H9.o.spare hr) (by unfold maxLen;omega) (by omega) (λ_=>?_) (λhr=>absurd hr (by omega))))
   have kW:=Hd (H9.o.room HZ.o (by omega) HV.o.2.2.2.2.1 hroom);go_roundw
   case rel=>exact⟨t+1,gt,ct,_,_,by omega,by go_num,rfl,kW⟩
   simp[intOf];omega
  go_wp2_with (first
   |(at_builtin;refine wpList_append_own_at _ rfl _ _ 35 rfl B 85 i0 _ 1 24 Tryz.underlying35 hi hz0 hz1 hz2 rfl (by omega) (.slice ma (L+t) mc) (L+t) (kC (K++N)) rfl (NS.o.alloc _) (Ad W4.heap.size 0) 1 1 [.slice (some (Ad gt 0)) (k+t) ct] rfl rfl (World.news_of_block (cs:=#[.slice (some (Ad gt 0)) (k+t) ct]) (t:=85) (fr:=(0,0)) (di W4 _)) (by simp[Value.oneCell']) (by unfold maxLen;omega) (by omega) (by simp;omega) ?_;intro v9 w9 aH aJ _ iL;obtain⟨iM,iN,ni⟩:=ah aH;subst ni;obtain⟨c93,z93⟩:=RY.o w9 aJ;have H9:Hid (rC B W1 ((w9.setCell (Ad wb 2) (.slice iM (L+t+1) iN)).alloc (.cells #[.i z,.i 0,.i 0] 84)) wb gg E mv kv M K z (t+1) (k+t) gt ct (.slice iM (L+t+1) iN) (N++[(gt,k+t,ct)])):=(qZ.o w9 _ aJ aH iL).same (fR.alloc _);obtain⟨x0,x1,x2⟩:=Ws.o _ (qZ.o w9 _ aJ aH iL).fr;clear aH aJ iL)
   |(at_builtin;refine wpList_append_arg ((w9.setCell (Ad wb 2) (.slice iM (L+t+1) iN)).alloc (.cells #[.i z,.i 0,.i 0] 84)) rfl _ _ 85 rfl 84 i1 _ 3 24 Tryz.underlying85 hi1 hy0 hy1 hy2 rfl (by omega) gt 0 (k+t) ct (BX z (k+t)) rfl (vM z _) H9.o.olds (Ad w9.heap.size 0) 1 1 (m3 z) rfl rfl (World.news_of_block (cs:=#[.i z,.i 0,.i 0]) (t:=84) (fr:=(0,0)) (by have h8:=di (w9.setCell (Ad wb 2) (.slice iM (L+t+1) iN)) (.cells #[.i z,.i 0,.i 0] 84);rw[World.size_setCell]at h8;exact h8)) (by simp[m3,Value.oneCell']) (λhr=>H9.o.spare hr) (by unfold maxLen;omega) (by omega) (λhr=>absurd hr (by omega)) (λ_=>?_);intro vA wA rz rA;obtain⟨gA,cA,Wp⟩:∃gA cA,vA=.slice (some (Ad gA 0)) (k+t+1) cA:=(by rcases rz.2 with⟨_,h0⟩|⟨gA,cA,_,h0,_⟩;(· omega);(· exact⟨gA,cA,h0⟩));subst Wp;have kW:=Hd (H9.o.new (by have h8:=HV.o.2.2.2.2.2;have h9:=H9.o.fr.size;omega) rA rz (Gj z (k+t)));clear rz rA))
  go_roundw
  case rel=>exact⟨t+1,gA,cA,_,_,by omega,by go_num,rfl,kW⟩
  simp[intOf];omega
 have NT:t=4:=by omega
 subst NT;go_wp2;go_end0;exact⟨rfl,kv',K++N,by rw[dE,HT.o.nl],HT.o.wm,(tN.o.mono (by simp)).trans HT.o.fr (λk hk=>Or.inl hk),λx hx=>by
  rcases dT.1 hx with h|h
  .exact Or.inl h
  exact Or.inr ⟨by have:=(HT.o.nn x h).2;omega,(HT.o.nn x h).1.imp_right (eJ tN.o.size)⟩,λk hk=>(HT.o.ob k hk).imp_right (eJ tN.o.size)⟩
section
variable {B:Nat}{w w':World}{wb:Nat}{E:We}{kv mv:Value}{K M:List (Nat×Nat×Nat)}
theorem Gr(K:List (Nat×Nat×Nat))(i:Nat)(h:i<K.length):(kC K)[i]?=some (.slice (some (Ad K[i].1 0)) K[i].2.1 K[i].2.2):=by unfold kC;rw[List.getElem?_map,dp h];rfl
theorem WM.Sd{kg L kc:Nat}(h:WM B w wb E (.slice (some (Ad kg 0)) L kc) mv K M)(hL:K.length=L){i:Nat}(hi:i<L):w.cell? (Ad kg i)=some (.slice (some (Ad (K[i]'(by omega)).1 0)) (K[i]'(by omega)).2.1 (K[i]'(by omega)).2.2):=by
 have ho:=h.ko;rw[hL]at ho;obtain⟨g',e',_,hc⟩:=aB ho (by omega);have:g'=kg:=by simpa using e'.symm
 subst this;rw[hc i (by omega)];exact Gr K i (by omega)
theorem WM.Sg{kg L kc:Nat}(h:WM B w wb E kv (.slice (some (Ad kg 0)) L kc) K M)(hL:M.length=L){i:Nat}(hi:i<L):w.cell? (Ad kg i)=some (.slice (some (Ad (M[i]'(by omega)).1 0)) (M[i]'(by omega)).2.1 (M[i]'(by omega)).2.2):=by
 have ho:=h.mo;rw[hL]at ho;obtain⟨g',e',_,hc⟩:=aB ho (by omega);have:g'=kg:=by simpa using e'.symm
 subst this;rw[hc i (by omega)];exact Gr M i (by omega)
theorem KR.c3{g n:Nat}{z:Int}(h:KR 84 w g n (m3 z)){j:Nat}(hj:j<n):w.cell? (Ad g (j*3))=some (.i z)∧w.cell? (Ad g (j*3+1))=some (.i 0)∧w.cell? (Ad g (j*3+2))=some (.i 0):=by
 obtain⟨cur,h1,_,h3⟩:=h;refine⟨?_,?_,?_⟩<;>rw[cell_of h1]
 .exact h3 j hj 0 (by simp[m3])
 .exact h3 j hj 1 (by simp[m3])
 exact h3 j hj 2 (by simp[m3])
theorem KR.c1{g n:Nat}{z:Int}(h:KR 3 w g n (m1 z)){j:Nat}(hj:j<n):w.cell? (Ad g j)=some (.i z):=by obtain⟨cur,h1,_,h3⟩:=h;rw[cell_of h1];have:=h3 j hj 0 (by simp[m1]);simpa[m1]using this
end
theorem DZ(B wb:Nat)(E:We)(kv mv:Value)(K M:List (Nat×Nat×Nat))(w:World)(h:WM B w wb E kv mv K M)(hK:K.length≤9000000)(hM:M.length≤9000000)(bK:∀x∈K,x.2.1≤16)(bM:∀x∈M,x.2.1≤16):
 Rc 6 #[.p wb] w (.bool true) λw'=>Fr [] w w':=by
 obtain⟨ka,kc,hkv⟩:=ah h.ko;obtain⟨ma,mc,hmv⟩:=ah h.mo;subst hkv;subst hmv;obtain⟨L,hL⟩:=eX K.length;obtain⟨N,hN⟩:=eX M.length;rw[hL,hN]at h;have HW:Hid (∀W,Fr [] w W->WM B W wb E (.slice ka L kc) (.slice ma N mc) K M):=λW hW=>h.same hW;have HL:=Hj4 hL hN bK bM;have hm:Tryz.prog.eqGuardType Tryz.prog.depth 84=false:=by kernel_rfl
 rw[hL]at hK;rw[hN]at hM;clear h hL hN bK bM;go_enter Tryz.func6,Tryz.ntmps6;go_wp2;go_loopw [3] (λi wr=>∃k:Nat,k≤L∧i=.i k∧Hid (Fr [] w wr)) (λi _=>L-(intOf i).toNat)
 case atStart=>exact⟨0,dC _,rfl,fR⟩
 obtain⟨i,hi,rfl,HI⟩:=hrel;obtain⟨W3,hW3⟩:=eY wr;subst hW3;have x2:=(HW.o W3 HI.o).cells.2.1;by_cases hlt:i<L
 .have hltz:(i:Int)<(L:Int):=by omega
  have i0:(0:Int)≤(i:Int):=by omega
  have M3:=HW.o W3 HI.o;have ko:=M3.ko;rw[HL.o.1]at ko;obtain⟨kg,hkg,Y9,_⟩:=aB ko (by omega);have hiK:i<K.length:=by rw[HL.o.1];exact hlt
  obtain⟨⟨g,n,c⟩,hx⟩:∃x,K[i]=x:=⟨_,rfl⟩;have hn16:n≤16:=by have:=HL.o.2.2.1 K[i] (eE hiK);rw[hx]at this;exact this
  obtain⟨z,hzz⟩:∃z:Int,-1-(i:Int) / 4*4=z:=⟨_,rfl⟩;have hz:xq i=z:=by unfold xq;omega
  have HX:Hid (∀W,Fr [] w W->W.cell? (Ad wb 2)=some (.slice (some (Ad kg 0)) L kc)∧W.cell? (Ad kg i)=some (.slice (some (Ad g 0)) n c)∧∀j,j<n->W.cell? (Ad g (j*3))=some (.i z)∧W.cell? (Ad g (j*3+1))=some (.i 0)∧W.cell? (Ad g (j*3+2))=some (.i 0)):=λW hW=>by have MW:=HW.o W hW;rw[hkg]at MW;have h8:=MW.Sd HL.o.1 hlt;have h9:=(MW.kk i K[i] (dp hiK)).2;rw[hx]at h8 h9;rw[hz]at h9;exact⟨MW.cells.2.1,h8,λj hj=>h9.c3 hj⟩
  subst hkg;clear M3 ko hz hx hiK;go_wp2;obtain⟨W4,iI⟩:=eX (W3.alloc (.cells #[.i z,.i 0,.i 0] 84));obtain⟨mb,hmb⟩:=eX W3.heap.size;have H4:Hid (Fr [] w W4∧W4.heap[mb]?=some (.cells #[.i z,.i 0,.i 0] 84 (0,0))):=⟨by rw[<-iI];exact HI.o.alloc _,by rw[<-iI,<-hmb];exact di W3 _⟩;rw[iI,hmb];clear iI hmb hzz x2 HI;have hne:=λW=>ME W z 0 0;go_loopw [5] (λi wr=>∃k:Nat,k≤n∧i=.i k∧Hid (Fr [] W4 wr)) (λi _=>n-(intOf i).toNat)
  case atStart=>exact⟨0,dC _,rfl,fR⟩
  obtain⟨k,hk,rfl,HK⟩:=hrel;obtain⟨W5,kJ⟩:=eY wr;subst kJ;have F5:=H4.o.1.trans HK.o (by simp);obtain⟨y2,yi,yc⟩:=HX.o W5 F5;by_cases hlt2:k<n
  .have MF:(k:Int)<(n:Int):=by omega
   have k0:(0:Int)≤(k:Int):=by omega
   obtain⟨c0,c1,c2⟩:=yc k hlt2;have bm:W5.heap[mb]?=some (.cells #[.i z,.i 0,.i 0] 84 (0,0)):=by rw[HK.o.block mb (cY.1 H4.o.2).1 (by simp)];exact H4.o.2
   have d1:∀q,cD (W5.drewN q) wb 2 (.slice (some (Ad kg 0)) L kc):=λq=>y2;have d2:∀q,cD (W5.drewN q) kg i (.slice (some (Ad g 0)) n c):=λq=>yi;have d3:∀q,cE (W5.drewN q) g (k*3) z:=λq=>c0;have d4:∀q,cE (W5.drewN q) g (k*3+1) 0:=λq=>c1;have d5:∀q,cE (W5.drewN q) g (k*3+2) 0:=λq=>c2;have d6:∀q,cE (W5.drewN q) mb 0 z:=λq=>by show W5.cell? _=_;rw[cell_of bm];rfl
   have d7:∀q,cE (W5.drewN q) mb 1 0:=λq=>by show W5.cell? _=_;rw[cell_of bm];rfl
   have d8:∀q,cE (W5.drewN q) mb 2 0:=λq=>by show W5.cell? _=_;rw[cell_of bm];rfl
   clear yc c0 c1 c2 bm F5;go_wp2;go_quiet (fail)
   go_wp2;go_roundw
   case rel=>exact⟨k+1,by omega,by go_num,HK.o.pK _⟩
   simp[intOf];omega
  have hkk:k=n:=by omega
  subst hkk;have HF:=Hd F5;clear yc F5;go_wp2;go_roundw
  case rel=>exact⟨i+1,by omega,by go_num,HF⟩
  simp[intOf];omega
 have hii:i=L:=by omega
 subst hii;go_wp2;clear x2;go_loopw [6] (λi wr=>∃k:Nat,k≤N∧i=.i k∧Hid (Fr [] w wr)) (λi _=>N-(intOf i).toNat)
 case atStart=>exact⟨0,dC _,rfl,HI⟩
 obtain⟨j,hj,rfl,HJ⟩:=hrel;obtain⟨W6,lI⟩:=eY wr;subst lI;clear HI;have x3:=(HW.o W6 HJ.o).cells.2.2.1;by_cases Si:j<N
 .have hltz:(j:Int)<(N:Int):=by omega
  have j0:(0:Int)≤(j:Int):=by omega
  have M6:=HW.o W6 HJ.o;have mo:=M6.mo;rw[HL.o.2.1]at mo;obtain⟨mg,Za,Zb,_⟩:=aB mo (by omega);have Wu:j<M.length:=by rw[HL.o.2.1];exact Si
  obtain⟨⟨g,n,c⟩,hx⟩:∃x,M[j]=x:=⟨_,rfl⟩;have hn16:n≤16:=by have:=HL.o.2.2.2 M[j] (eE Wu);rw[hx]at this;exact this
  obtain⟨z,hzz⟩:∃z:Int,-1-(j:Int) / 4*4=z:=⟨_,rfl⟩;have hz:xq j=z:=by unfold xq;omega
  have HX:Hid (∀W,Fr [] w W->W.cell? (Ad wb 3)=some (.slice (some (Ad mg 0)) N mc)∧W.cell? (Ad mg j)=some (.slice (some (Ad g 0)) n c)∧∀k,k<n->W.cell? (Ad g k)=some (.i z)):=λW hW=>by have MW:=HW.o W hW;rw[Za]at MW;have h8:=MW.Sg HL.o.2.1 Si;have h9:=(MW.mi j M[j] (dp Wu)).2;rw[hx]at h8 h9;rw[hz]at h9;exact⟨MW.cells.2.2.1,h8,λk hk=>h9.c1 hk⟩
  subst Za;clear M6 mo hz hx Wu;go_wp2;go_loopw [7] (λi wr=>∃k:Nat,k≤n∧i=.i k∧Hid (Fr [] w wr)) (λi _=>n-(intOf i).toNat)
  case atStart=>exact⟨0,dC _,rfl,HJ⟩
  obtain⟨k,hk,rfl,HK⟩:=hrel;obtain⟨W5,kJ⟩:=eY wr;subst kJ;clear x3;obtain⟨y2,yi,yc⟩:=HX.o W5 HK.o;by_cases hlt2:k<n
  .have MF:(k:Int)<(n:Int):=by omega
   have k0:(0:Int)≤(k:Int):=by omega
   have c0:=yc k hlt2;clear yc;go_wp2;go_roundw
   case rel=>exact⟨k+1,by omega,by go_num,by first|exact HK|exact HK.o.pK _⟩
   simp[intOf];omega
  have hkk:k=n:=by omega
  subst hkk;clear yc;go_wp2;go_roundw
  case rel=>exact⟨j+1,by omega,by go_num,HK⟩
  simp[intOf];omega
 have hjj:j=N:=by omega
 subst hjj;go_wp2;go_ret;exact⟨rfl,HJ.o⟩
end Go.Proofs.YtjceeemlilnplaaGreatDoor
