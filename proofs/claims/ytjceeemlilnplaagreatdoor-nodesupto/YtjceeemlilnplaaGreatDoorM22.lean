import Derived.Test.YtjceeemlilnplaaGreatDoorM12
import Derived.Test.YtjceeemlilnplaaGreatDoorM19
import Derived.Test.YtjceeemlilnplaaGreatDoorM21
set_option maxRecDepth 100000
set_option maxHeartbeats 12800000
set_option linter.all false
namespace Go.Proofs.YtjceeemlilnplaaGreatDoor
open Go.RowKit Go.Maps Go.MuLone
section
variable {B:Nat}{w w' w1 w2 W:World}{b rb:Nat}{s s':aK}{r r' r0:ak}{q:Nat}{F F' SK:List Nat}{f g:Nat}{args:Nat->Array Value}{v:Value}
theorem su(h:Ok 1000000000 r)(g:Int):∃c r',BC 72 73 (λb=>#[.p b,.i g]) r (fC c) r'∧((∀x∈r.sh,x.au≠g)->r'=r):=by
 obtain⟨s1,q1,m1,_⟩:=id h;have l1:=m1.iQ;have l2:=m1.len;rcases h.spot g with e'|⟨j,y,hy,e',hyg,h0,h9⟩
 .exact⟨3,r,⟨UC.still λB b s q w rp m=>vJ B b s g w rp m.len.1 (by rw[<-m.fi];exact e'),RC.still λB b r0 w⟨sv,mv,hr⟩rp=>by subst hr;exact(uq B b _ g w rp (by show r.sh.length≤12;omega) e').mono λe w' h=>⟨h.1,cu h.2⟩,Ok.up⟩,λ_=>rfl⟩
 by_cases h8:y.holds=0
 .refine⟨1,r,⟨UC.still λB b s q w rp m=>?_,RC.still λB b r0 w⟨sv,mv,hr⟩rp=>by subst hr;exact(wJ B b _ g j y w rp (by show r.sh.length≤12;omega) e' hy h8).mono λe w' h=>⟨h.1,cu h.2⟩,Ok.up⟩,λ_=>rfl⟩;obtain⟨x,hx,hxg,hxh,hxm⟩:=m.spot hy;exact xW B b s g j x w rp m.len.1 (by rw[<-m.fi];exact e') hx (by omega)
 refine⟨0,r.setH j y (y.holds-1),⟨UC.to λB b s q w rp m hq=>?_,RC.to λB b r0 w⟨sv,mv,hr⟩rp=>by subst hr;refine(zl B b _ g j y w rp (by show r.sh.length≤12;omega) e' hy (by omega)).mono ?_;rintro e w' ⟨rfl,rp',f1⟩;exact⟨rfl,_,⟨sv,mv,rfl⟩,rp',f1,λk hk=>Or.inl hk⟩,Ok.setH hy (by omega)⟩,λh=>absurd hyg (h y (eW hy))⟩;obtain⟨x,hx,hxg,hxh,hxm⟩:=m.spot hy;refine(Ae B b s g j x w rp m.len.1 (by rw[<-m.fi];exact e') hx (by omega) (by have:=m.lg;omega)).mono ?_;rintro e w1 ⟨rfl,lv,rp',f1,o1⟩;exact⟨rfl,_,rp',by rw[hxh];exact m.setH hx hy (by omega) (ou g),f1,nI o1⟩
theorem Fq:∀l:List (Int×Int),∃l':List (Int×Int),l'.Perm l∧l'.Pairwise λa b=>a.2≤b.2:=λl=>
 ⟨l.mergeSort (λa b=>decide (a.2≤b.2)),List.mergeSort_perm _ _,by have:=List.pairwise_mergeSort (le:=λa b:Int×Int=>decide (a.2≤b.2)) (by intro a b c;simp;omega) (by intro a b;simp;omega) l;exact this.imp (by intro a b;simp)⟩
theorem Ok.marked{j:Nat}{y:aS}{g:Int}(hy:r.sh[j]?=some y)(hyg:y.au=g)(em:fi (λy:Int×Int=>y.1==g) 0 r.ms=-1)(h12:r.ms.length<12)(n:Nat)(h:Ok n r):Ok (n+1) (r.lC (jc (g,y.came) r.ms) r.mv):=by
 obtain⟨s,q,m,hq,hw⟩:=h;obtain⟨x,hx,Qq,_⟩:=m.spot hy;have hxg:x.au=g:=Qq.trans hyg;obtain⟨l,hp,hs⟩:=Fq (s.ms++[(x.au,x.came)]);have V6:fi (λy:Int×Int=>y.1==g) 0 s.ms=-1:=by rw[<-m.Me];exact em
 have h7:=m.marked hx hy (λa ha e=>by rw[hxg]at e;obtain⟨j,hj,e2,_⟩:=dx (p:=λy:Int×Int=>y.1==g) s.ms 0 ⟨a,ha,by simpa using e⟩;rw[V6]at e2;omega) (by rw[<-m.pY];exact h12) hp hs (mv:=vn) (mv':=r.mv) (lv:=vn) (t:=⟨#[]⟩) (by show 0≤50;omega);rw[hxg]at h7;exact⟨_,_,h7,by omega,hw⟩
theorem CU(h:Ok 1000000000 r)(g:Int):∃c r',BC 75 76 (λb=>#[.p b,.i g]) r (fC c) r':=by
 obtain⟨s1,q1,m1,_⟩:=id h;have l1:=m1.iQ;have l2:=m1.len;have l3:=m1.pY;rcases jv (λy:Int×Int=>y.1==g) r.ms with em|⟨i,hi,em,_⟩
 .rcases h.spot g with e'|⟨j,y,hy,e',hyg,h0,h9⟩
  .exact⟨3,r,UC.still λB b s q w rp m=>DK B b s g w rp m.len.2 m.len.1 (by rw[<-m.Me];exact em) (by rw[<-m.fi];exact e'),RC.still λB b r0 w⟨sv,mv,hr⟩rp=>by subst hr;exact(Aa B b _ g w rp (by show r.ms.length≤12;omega) (by show r.sh.length≤12;omega) em e').mono λe w' h=>⟨h.1,cu h.2⟩,Ok.up⟩
  by_cases hf:r.ms.length=12
  .exact⟨5,r,UC.still λB b s q w rp m=>DL B b s g j w rp (by rw[<-m.pY];exact hf) m.len.1 (by rw[<-m.Me];exact em) (by rw[<-m.fi];exact e'),RC.still λB b r0 w⟨sv,mv,hr⟩rp=>by subst hr;exact(Ab B b _ g j w rp (by show r.ms.length=12;omega) (by show r.sh.length≤12;omega) em e').mono λe w' h=>⟨h.1,cu h.2⟩,Ok.up⟩
  refine⟨0,r.lC (jc (g,y.came) r.ms) r.mv,UC.to λB b s q w rp m hq=>?_,RC.to λB b r0 w hr rp=>?_,Ok.marked hy hyg em (by omega)⟩
  .obtain⟨x,hx,Qq,hxh,hxm⟩:=m.spot hy;have hxg:x.au=g:=Qq.trans hyg;have V6:fi (λy:Int×Int=>y.1==g) 0 s.ms=-1:=by rw[<-m.Me];exact em
   have hl12:=m.len;have e3:=m.pY;have hno:∀a∈s.ms,a.1≠x.au:=λa ha e=>by rw[hxg]at e;obtain⟨j,hj,e2,_⟩:=dx (p:=λy:Int×Int=>y.1==g) s.ms 0 ⟨a,ha,by simpa using e⟩;rw[V6]at e2;omega
   have hcm:=m.cm;obtain⟨C,cc⟩:=m.cc;have hxc:0≤x.came∧x.came≤1000000000000:=by have h8:=cc.rng x.au (bn.2 (Or.inl ⟨x,hxm,rfl⟩));rw[cc.ps x hxm];omega
   refine(Gt B b s g j x w rp hl12.1 (by omega) (by rw[<-m.fi];exact e') hx V6 (λa ha=>by have h8:=cc.rng a.1 (bn.2 (Or.inr ⟨a,ha,rfl⟩));rw[cc.pm a ha];omega) hxc (by have:=m.lg;omega)).mono ?_;rintro e w1 ⟨rfl,l,mv,lv,hp,hs,rp',f1,o1,o2⟩;rw[<-hxg]at hp;exact⟨rfl,_,rp',by have h7:=m.marked hx hy hno (by omega) hp hs (mv:=mv) (mv':=r.mv) (lv:=lv) (ou g);rw[hxg]at h7;exact h7,f1,qJ rfl rfl (λk hk=>Or.inl hk) o1 o2⟩
  obtain⟨sv,mv,rfl⟩:=hr;have l4:({r with sv:=sv,mv:=mv}:ak).sh.length≤12:=by show r.sh.length≤12;omega
  have l5:({r with sv:=sv,mv:=mv}:ak).ms.length<12:=by show r.ms.length<12;omega
  have fin:∀(e:Ending)(w2:World),(e=.returned (.i 0)∧∃mv',aG B w2 b (({r with sv:=sv,mv:=mv}:ak).lC (jc (g,y.came) r.ms) mv')∧Fr (aN b {r with sv:=sv,mv:=mv}) w w2∧(∀k,mv'.ownBlock=some k->w.heap.size≤k))->(e=.returned (fC 0)∧∃r2,RQ (r.lC (jc (g,y.came) r.ms) r.mv) r2∧aG B w2 b r2∧Fr (aN b {r with sv:=sv,mv:=mv}) w w2∧∀k∈aN b r2,k∈aN b {r with sv:=sv,mv:=mv}∨w.heap.size≤k):=by rintro e w2 ⟨rfl,mv',rr,f2,o3⟩;exact⟨rfl,_,⟨sv,mv',rfl⟩,rr,f2,ku (λk hk=>Or.inl hk) (λk hk=>Or.inr (o3 k hk))⟩
  by_cases hn:mv=.slice none 0 0
  .have hms:r.ms=[]:=by
    have ho:=rp.ms;rw[show({r with sv:=sv,mv:=mv}:ak).mv=.slice none 0 0 from hn]at ho;rcases ho.2 with⟨_,h0⟩|⟨g,c,cur,h0,_⟩
    .exact List.length_eq_zero_iff.1 h0
    simp at h0
   exact(EJ B b _ g j y w rp l4 em e' hy hms hn).mono λe w2 hp=>fin e w2 hp
  by_cases ha:ahead y.came r.ms<r.ms.length
  .exact(EH B b _ g j y w rp l5 l4 em e' hy ha).mono λe w2 hp=>fin e w2 hp
  exact(Bp B b _ g j y w rp l5 l4 em e' hy (EG _ _ (by show r.ms.length≤ahead y.came r.ms;omega)) hn).mono λe w2 hp=>fin e w2 hp
 exact⟨0,r,UC.still λB b s q w rp m=>Gb B b s g i w rp m.len.2 (by rw[<-m.Me];exact em),RC.still λB b r0 w⟨sv,mv,hr⟩rp=>by subst hr;exact(DN B b _ g i w rp (by show r.ms.length≤12;omega) (by show r.sh.length≤12;omega) em).mono λe w' h=>⟨h.1,cu h.2⟩,Ok.up⟩
theorem uL(h:Ok 1000000000 r)(g:Int):∃c r',BC 77 78 (λb=>#[.p b,.i g]) r (fC c) r'∧((∀m∈r.ms,m.1≠g)->r'=r):=by
 obtain⟨s1,q1,m1,_⟩:=id h;have l2:=m1.len;have l3:=m1.pY;rcases jv (λy:Int×Int=>y.1==g) r.ms with em|⟨i,hi,em,hpi⟩
 .exact⟨3,r,⟨UC.still λB b s q w rp m=>xV B b s g w rp m.len.2 (by rw[<-m.Me];exact em),RC.still λB b r0 w⟨sv,mv,hr⟩rp=>by subst hr;exact(vL B b _ g w rp (by show r.ms.length≤12;omega) em).mono λe w' h=>⟨h.1,cu h.2⟩,Ok.up⟩,λ_=>rfl⟩
 refine⟨0,r.lC (r.ms.eraseIdx i) r.mv,⟨UC.to λB b s q w rp m hq=>?_,RC.to λB b r0 w⟨sv,mv,hr⟩rp=>?_,λn⟨s,q,m,hq,hw⟩=>⟨_,_,m.ig i (mv:=vn) (lv:=vn) (t:=⟨#[]⟩) (by show 0≤50;omega),by omega,hw⟩⟩,λh=>absurd (by simpa using hpi) (h r.ms[i] (eE hi))⟩
 .refine(Fu B b s g i w rp m.len.2 (by rw[<-m.Me];exact em) (by rw[<-m.pY];exact hi) (by have:=m.lg;omega)).mono ?_;rintro e w1 ⟨rfl,mv,lv,rp',f1,o1,o2⟩;exact⟨rfl,_,rp',m.ig i (ou g),f1,qJ rfl rfl (λk hk=>Or.inl hk) (λk hk=>Or.inl (by rw[<-o1];exact hk)) o2⟩
 subst hr;refine(BK B b _ g i w rp (by show r.ms.length≤12;omega) em hi).mono ?_;rintro e w2 ⟨rfl,mv',rr,f2,o3⟩;exact⟨rfl,_,⟨sv,mv',rfl⟩,rr,f2,ku (λk hk=>Or.inl hk) (λk hk=>Or.inr (o3 k hk))⟩
theorem JE(h:Ok 1000000000 r)(k:Int)(t:cC):∃c r',BC 63 64 (λb=>#[.p b,.i k,.t t]) r (fC c) r':=by
 obtain⟨s1,q1,m1,hq1,hwf⟩:=h;have bl:=m1.bl;have rn:=m1.rn;by_cases hb:(decide (0≤k)&&decide (k<r.blocks))=false∨((t.size:Int) != 4)=true
 .exact⟨1,r,UC.still λB b s q w rp m=>Du B b s k t w rp (by rw[<-m.bl.1];exact hb),RC.still λB b r0 w⟨sv,mv,hr⟩rp=>by subst hr;exact(BL B b _ k t w rp hb).mono λe w' h=>⟨h.1,cu h.2⟩,Ok.up⟩
 have hk:0≤k∧k<r.blocks:=by have:¬(decide (0≤k)&&decide (k<r.blocks))=false:=λe=>hb (Or.inl e);simpa using this
 have ht:t.size=4:=by have:¬((t.size:Int) != 4)=true:=λe=>hb (Or.inr e);simp at this;omega
 obtain⟨x,rfl⟩:=four ht;obtain⟨n,rfl⟩:∃n:Nat,k=(n:Int):=⟨k.toNat,by omega⟩;refine⟨0,r.write n x.ba,UC.to λB b s q w rp m hq=>?_,RC.to λB b r0 w⟨sv,mv,hr⟩rp=>?_,λk⟨s,q,m,hq,hw⟩=>⟨_,_,m.write (lv:=vn) (t:=⟨#[]⟩) hw.1 hw.2.1 (by have:=m.bl.1;omega:n<s.aL.length) x (by show 0≤50;omega),by omega,by show(r.dat.set n x.ba).length=16;rw[eR];exact hw.1,by show(r.born.set n _).length=16;rw[eR];exact hw.2.1,hw.2.2⟩⟩
 .have hn:n<s.aL.length:=by have:=m.bl.1;omega
  refine(FX B b s n x w rp hn (by have:=m.lg;omega)).mono ?_;rintro e w1 ⟨rfl,lv,rp',f1,o1⟩;exact⟨rfl,_,rp',m.write hwf.1 hwf.2.1 hn x (by show(uy n x).size≤50;exact(by rfl:(uy n x).size=5)▸(by omega)),f1,nI o1⟩
 subst hr;refine(Fa B b _ n x.ba w rp (by show n<r.blocks;omega) (by show r.blocks≤16;omega) rfl (by show 0≤r.now∧r.now≤1000000000000;omega)).mono ?_;rintro e w2 ⟨rfl,rr,f2⟩;exact⟨rfl,_,⟨sv,mv,rfl⟩,rr,f2,λk hk=>Or.inl hk⟩
theorem Dm(h:Ok 1000000000 r)(k:Int):∃c,BC 28 29 (λb=>#[.p b,.i k]) r (fT c) r:=by
 obtain⟨s1,q1,m1,hq1,hwf⟩:=h;have bl:=m1.bl;by_cases hb:(decide (0≤k)&&decide (k<r.blocks))=false
 .exact⟨(⟨#[]⟩,1),UC.still λB b s q w rp m=>Gc B b s k w rp (by rw[<-m.bl.1];exact hb),RC.still λB b r0 w⟨sv,mv,hr⟩rp=>by subst hr;exact(E8 B b _ k w rp hb).mono λe w' h=>⟨h.1,cu h.2⟩,Ok.up⟩
 have hk:0≤k∧k<r.blocks:=by simpa using hb
 obtain⟨n,rfl⟩:∃n:Nat,k=(n:Int):=⟨k.toNat,by omega⟩;have hd:n<r.dat.length:=by rw[hwf.1];omega
 refine⟨(r.dat[n],0),UC.still λB b s q w rp m=>?_,RC.still λB b r0 w⟨sv,mv,hr⟩rp=>by subst hr;exact(Jo B b _ n w rp (by show n<r.blocks;omega) (by show r.blocks≤16;omega)).mono λe w' h=>⟨h.1,cu h.2⟩,Ok.up⟩;have hn:n<s.aL.length:=by have:=m.bl.1;omega
 have e:=m.dat n hn;rw[dp hd]at e;simp only[ip]at e;rw[e];exact Ka B b s n w rp hn
end
structure gq where
 hold:ak->Int->Int×ak
 rel:ak->Int->Int×ak
 mark:ak->Int->Int×ak
 yG:ak->Int->Int×ak
 snap:ak->Int->(Int×Int)×ak
 dst:ak->Int->Int×ak
 send:ak->Int->Int->cC×Int
 recv:ak->cC->(Int×Int)×ak
def a1(g:Int)(b:Nat):Array Value:=#[.p b,.i g]
structure bE(O:gq):Prop where
 hold:∀r g,Ok 1000000000 r->BC 70 71 (a1 g) r (fC (O.hold r g).1) (O.hold r g).2
 rel:∀r g,Ok 1000000000 r->BC 72 73 (a1 g) r (fC (O.rel r g).1) (O.rel r g).2∧((∀x∈r.sh,x.au≠g)->(O.rel r g).2=r)
 mark:∀r g,Ok 1000000000 r->BC 75 76 (a1 g) r (fC (O.mark r g).1) (O.mark r g).2
 yG:∀r g,Ok 1000000000 r->BC 77 78 (a1 g) r (fC (O.yG r g).1) (O.yG r g).2∧((∀m∈r.ms,m.1≠g)->(O.yG r g).2=r)
 snap:∀r g,Ok 1000000000 r->BC 65 66 (a1 g) r (fI (O.snap r g).1) (O.snap r g).2
 dst:∀r g,Ok 1000000000 r->In64 g->(UD [g] r (fC (O.dst r g).1) (O.dst r g).2∧RD [g] r (fC (O.dst r g).1) (O.dst r g).2∧∀n,Ok n r->Ok (n+1) (O.dst r g).2)∧((O.dst r g).1≠0->(O.dst r g).2=r)∧((∀x∈r.sh,x.au≠g)->(O.dst r g).1≠0)∧∀x∈(O.dst r g).2.sh,x∈r.sh
 send:∀r f t,Ok 1000000000 r->(O.send r f t).1.size≤1000∧BC 30 31 (λb=>#[.p b,.i f,.i t]) r (fT (O.send r f t)) r
 recv:∀r tx,Ok 1000000000 r->tx.size≤2000000->BC 80 81 (λb=>#[.p b,.t tx]) r (fI (O.recv r tx).1) (O.recv r tx).2∧(((O.recv r tx).1.2=0∨(O.recv r tx).1.2=7)->∃f t m nb l,QW tx f t m nb l∧yZ tx f t m nb l∧((O.recv r tx).1.2=0->(O.recv r tx).1.1=t))
theorem pQ{α β:Type}[Inhabited β](P:ak->α->β->ak->Prop)(C:ak->α->Prop)(h:∀r a,C r a->∃c r',P r a c r'):∃f:ak->α->β×ak,∀r a,C r a->P r a (f r a).1 (f r a).2:=by
 have h1:∀x:ak×α,∃y:β×ak,C x.1 x.2->P x.1 x.2 y.1 y.2:=λx=>by
  by_cases hc:C x.1 x.2
  .obtain⟨c,r',hp⟩:=h x.1 x.2 hc;exact⟨(c,r'),λ_=>hp⟩
  exact⟨(default,x.1),λh=>absurd h hc⟩
 obtain⟨f,hf⟩:=Classical.skolem.1 h1;exact⟨λr a=>f (r,a),λr a hc=>hf (r,a) hc⟩
theorem OP:∃O:gq,bE O:=by obtain⟨hold,h1⟩:=pQ (λr g c r'=>BC 70 71 (a1 g) r (fC c) r') (λr _=>Ok 1000000000 r) (λr g h=>CS h g);obtain⟨rel,h2⟩:=pQ (λr g c r'=>BC 72 73 (a1 g) r (fC c) r'∧((∀x∈r.sh,x.au≠g)->r'=r)) (λr _=>Ok 1000000000 r) (λr g h=>su h g);obtain⟨mark,h3⟩:=pQ (λr g c r'=>BC 75 76 (a1 g) r (fC c) r') (λr _=>Ok 1000000000 r) (λr g h=>CU h g);obtain⟨yG,h4⟩:=pQ (λr g c r'=>BC 77 78 (a1 g) r (fC c) r'∧((∀m∈r.ms,m.1≠g)->r'=r)) (λr _=>Ok 1000000000 r) (λr g h=>uL h g);obtain⟨snap,h5⟩:=pQ (λr g c r'=>BC 65 66 (a1 g) r (fI c) r') (λr _=>Ok 1000000000 r) (λr g h=>CV h g);obtain⟨dst,h6⟩:=pQ (λr g c r'=>(UD [g] r (fC c) r'∧RD [g] r (fC c) r'∧∀n,Ok n r->Ok (n+1) r')∧(c≠0->r'=r)∧((∀x∈r.sh,x.au≠g)->c≠0)∧∀x∈r'.sh,x∈r.sh) (λr g=>Ok 1000000000 r∧In64 g) (λr g h=>y8 h.1 g h.2);obtain⟨send,h7⟩:=pQ (λr(x:Int×Int)c _=>c.1.size≤1000∧BC 30 31 (λb=>#[.p b,.i x.1,.i x.2]) r (fT c) r) (λr _=>Ok 1000000000 r) (λr x h=>by obtain⟨c,hc⟩:=wF h x.1 x.2;exact⟨c,r,hc⟩);obtain⟨recv,h8⟩:=pQ (λr tx c r'=>BC 80 81 (λb=>#[.p b,.t tx]) r (fI c) r'∧((c.2=0∨c.2=7)->∃f t m nb l,QW tx f t m nb l∧yZ tx f t m nb l∧(c.2=0->c.1=t))) (λr(tx:cC)=>Ok 1000000000 r∧tx.size≤2000000) (λr tx h=>CW h.1 tx h.2);exact⟨⟨hold,rel,mark,yG,snap,dst,λr f t=>(send r (f,t)).1,recv⟩,⟨h1,h2,h3,h4,h5,λr g a b=>h6 r g ⟨a,b⟩,λr f t h=>h7 r (f,t) h,λr tx a b=>h8 r tx ⟨a,b⟩⟩⟩
end Go.Proofs.YtjceeemlilnplaaGreatDoor
