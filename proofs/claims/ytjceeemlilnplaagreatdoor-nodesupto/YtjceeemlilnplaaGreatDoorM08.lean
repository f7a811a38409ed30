import Derived.Test.YtjceeemlilnplaaGreatDoorM05
import Derived.Laws.AppendOwnNone
import Derived.Test.YtjceeemlilnplaaGreatDoorM06
import Derived.Test.YtjceeemlilnplaaGreatDoorM07
set_option maxRecDepth 100000
set_option maxHeartbeats 12800000
set_option linter.all false
namespace Go.Proofs.YtjceeemlilnplaaGreatDoor
open Go.RowKit Go.Maps Go.MuLone
theorem EJ(B b:Nat)(s:ak)(g:Int)(j:Nat)(x:aS)(w:World)(h:aG B w b s)(hs:s.sh.length≤12)(hf:fi (λy:Int×Int=>y.1==g) 0 s.ms=-1)(hg:fi (λy:aS=>y.au==g) 0 s.sh=(j:Int))(hx:s.sh[j]?=some x)(hms:s.ms=[])(hmn:s.mv=.slice none 0 0):
 Rc 76 #[.p b,.i g] w (.i 0) λw'=>∃mv,aG B w' b (s.lC (jc (g,x.came) s.ms) mv)∧Fr (aN b s) w w'∧(∀k,mv.ownBlock=some k->w.heap.size≤k):=by
 obtain⟨i0,Nj,hz0,hz1,hz2⟩:=info_parts qG;have hj:j<s.sh.length:=(df.1 hx).1;have HM:=dP B b s g w h (by rw[hms];simp);have HS:=aQ B b s g w h (by omega);rw[hf]at HM;rw[hg]at HS;obtain⟨ao,cap,hsv⟩:=ah h.sh;have ho:=h.sh;rw[hsv]at ho;obtain⟨sg,hsg,hcap,hcc⟩:=aB ho (by omega);subst hsg;have cZ:w.cell? (Ad b 36)=some (.slice (some (Ad sg 0)) s.sh.length cap):=by rw[<-hsv];exact h.cells.2.2.2.2.1
 obtain⟨cm,hcm⟩:=eX x.came;have d3:w.cell? (Ad sg (j*36+3))=some (.i cm):=by
  rw[h.fE hsv j hj 3 (by omega)];rw[dp hj]at hx;have:s.sh[j]=x:=by simpa using hx
  rw[this,<-hcm];rfl
 rw[hcm];have c37:w.cell? (Ad b 37)=some (.slice none 0 0):=by rw[<-hmn];exact h.cells.2.2.2.2.2
 have HO:=Hj4 h hmn hms Nj;obtain⟨m,hm⟩:=eX s.sh.length;rw[hm]at cZ hcap hj hs;have j0:¬((j:Int)<0):=by omega
 have hjm:(j:Int)<(m:Int):=by omega
 obtain⟨w1,hw1⟩:=eX (w.alloc (.cells #[.i g,.i cm] 152));obtain⟨mb,hmb⟩:=eX w.heap.size;have HW:Hid (Fr [] w w1∧w1.heap[mb]?=some (.cells #[.i g,.i cm] 152 (0,0))):=⟨by rw[<-hw1];exact fR.alloc _,by rw[<-hw1,<-hmb];exact di w _⟩;clear h hf hg hx ho hsv hcc hm hcm Nj hms hmn;go_enter Tryz.func76,Tryz.ntmps76;go_wp2_with (first
  |(go_at_call 56;refine HS.mono ?_;rintro e w' ⟨rfl,hw'⟩;subst w')
  |(go_at_call 112;refine HM.mono ?_;rintro e w' ⟨rfl,hw'⟩;subst w'))
 clear hw1 hmb HS HM cZ d3 c37;go_loopw [8] (λi wr=>i=.i 0∧Hid (Fr [] w wr∧wr.heap[mb]?=some (.cells #[.i g,.i cm] 152 (0,0)))) (λ_ _=>0)
 case atStart=>exact⟨rfl,HW⟩
 obtain⟨rfl,HK⟩:=hrel;obtain⟨W3,hW3⟩:=eY wr;subst hW3;clear HW;have R3:=HO.o.1.aA HK.o.1;have e37:∀q,cD (W3.drewN q) b 37 (.slice none 0 0):=λq=>by have:=R3.cells.2.2.2.2.2;rw[HO.o.2.1]at this;exact this
 have em:∀q,(W3.drewN q).cell? (Ad mb 1)=some (.i cm):=λq=>by show W3.cell? (Ad mb 1)=_;rw[cell_of HK.o.2];rfl
 have JY:∀q,(W3.drewN q).cell? (Ad mb 0)=some (.i g):=λq=>by show W3.cell? (Ad mb 0)=_;rw[cell_of HK.o.2];rfl
 have hi:=HO.o.2.2.2;clear R3;go_wp2;go_quiet (fail)
 have H4:=Hd (HK.o.1.pK nq);have f37:=e37 nq;have JZ:=JY nq;have J2:=em nq;generalize W3.drewN nq=W4 at H4 f37 JZ J2⊢;clear e37 em HK JY;go_wp2_with (first
  |(at_builtin;refine wpList_append_own_none rfl _ _ 144 rfl W4.heap.size 152 i0 2 Tryz.underlying144 hi (.slice none 0 0) 0 [] rfl (eA _ _ _ _) rfl ?_)
  |(at_builtin;refine wpList_append_own _ rfl _ _ 144 rfl W4.heap.size 152 i0 _ 2 16 Tryz.underlying144 hi hz0 hz1 hz2 rfl (by omega) (.slice none 0 0) 0 [] rfl (eA _ _ _ _) (Ad W4.heap.size 0) 1 1 [.i g,.i cm] rfl rfl (World.news_of_block (cs:=#[.i g,.i cm]) (t:=152) (fr:=(0,0)) (di W4 _)) (by simp[Value.oneCell']) (by unfold maxLen;omega) (by omega) (by simp) ?_;intro v6 w6 hown6 dw _;have H6:Hid (w6.ownsRow W4.heap.size 152 2 v6 1 [.i g,.i cm]∧Fr [] W4 w6):=⟨hown6,(fR.alloc _).grown dw (λx hx=>by simp[Value.ownBlock]at hx)⟩;have I8:=H6.o.2.gb.cell f37 (by simp);have fz:w6.frozen? (Ad b 37)=false:=(HO.o.1.aA (H4.o.trans H6.o.2 (by simp))).frozen 37;obtain⟨IY,c6,e6⟩:=ah H6.o.1;subst e6;clear hown6 dw)
  |(at_builtin;refine wpList_append_own_none rfl _ _ 144 rfl W4.heap.size 152 i0 2 Tryz.underlying144 hi (.slice IY 1 c6) 1 _ rfl H6.o.1 rfl ?_))
 go_ret;exact⟨rfl,mM (n:=0) (k:=0) HO.o.1 H4.o H6.o.2 (by rw[HO.o.2.2.1];rfl) (by rw[HO.o.2.2.1];rfl) (by rw[HO.o.2.2.1];exact H6.o.1)⟩
def gls(s:aK):List Int:=s.ss.map Sn.au++s.ms.map Prod.fst
def CT(C:Int->Int×Int)(G:List Int)(cam now n z:Int):Prop:=(0≤n∧n≤cam∧z≤now)∧∀g∈G,((C g).1≤n↔(C g).2<z)
structure CC(s:aK)(r:ak)(C:Int->Int×Int):Prop where
 ps:∀x∈s.ss,x.came=(C x.au).1
 pm:∀m∈s.ms,m.2=(C m.1).1
 rs:∀x∈r.sh,x.came=(C x.au).2
 rm:∀m∈r.ms,m.2=(C m.1).2
 rng:∀g∈gls s,(1≤(C g).1∧(C g).1≤s.came)∧1≤(C g).2∧(C g).2≤r.now
 ord:∀g∈gls s,∀g'∈gls s,((C g).1<(C g').1↔(C g).2<(C g').2)
 inj:∀g∈gls s,∀g'∈gls s,(C g).1=(C g').1->g=g'
 vb:∀j(hj:j<s.aL.length),∃z,r.born[j]?=some z∧CT C (gls s) s.came r.now s.aL[j].n z
 tb:∀x∈r.sh,∀j:Nat,j<s.aL.length->∃z,x.born[j]?=some z∧CT C (gls s) s.came r.now (s.th x.au j).n z
structure dK(s:aK)(r:ak)(q:Nat):Prop where
 id:r.id=s.id∧1≤s.id∧s.id≤999
 bl:r.blocks=s.aL.length∧1≤s.aL.length∧s.aL.length≤16
 dat:∀j(hj:j<s.aL.length),r.dat[j]?=some s.aL[j].x.ba
 last:r.last=s.taken
 cm:(0≤s.came∧s.came≤q)∧0≤s.taken∧s.taken≤999999
 ss:s.ss.map t3=r.sh.map r3
 ms:s.ms.map Prod.fst=r.ms.map Prod.fst
 th:∀x∈r.sh,∀j:Nat,j<s.aL.length->x.dat[j]?=some (s.th x.au j).x.ba
 len:s.ss.length≤12∧s.ms.length≤12
 nd:(s.ss.map Sn.au).Nodup
 Qc:(s.ms.map Prod.fst).Nodup
 mp:r.ms.Pairwise λa b=>a.2<b.2
 gr:∀g∈gls s,1≤g∧g≤999999999
 tr:∀x∈s.ss,0≤x.time∧x.time≤1073741824
 ho:∀x∈s.ss,0≤x.holds∧x.holds≤9
 cc:∃C,CC s r C
 rn:0≤r.now∧r.now≤2*q
 lg:s.log.length≤100+110*q
 cn:s.cnt≤16*q
section
variable {s s':aK}{r r':ak}{q:Nat}{C:Int->Int×Int}
theorem CT.sub{G G':List Int}{a b n z:Int}(h:CT C G a b n z)(hs:∀g∈G',g∈G):CT C G' a b n z:=⟨h.1,λg hg=>h.2 g (hs g hg)⟩
theorem bn{g:Int}:g∈gls s↔(∃x∈s.ss,x.au=g)∨∃m∈s.ms,m.1=g:=by unfold gls;rw[dT,fm,fm]
theorem CC.sub(c:CC s r C)(h1:∀x∈s'.ss,∃y∈s.ss,x.au=y.au∧x.came=y.came)(h2:∀m∈s'.ms,m∈s.ms∨∃y∈s.ss,m=(y.au,y.came))
 (h3:∀x∈r'.sh,∃y∈r.sh,x.au=y.au∧x.came=y.came∧x.born=y.born)(h4:∀m∈r'.ms,m∈r.ms∨∃y∈r.sh,m=(y.au,y.came))
 (hv:s'.aL=s.aL)(hb:r'.born=r.born)(hc:s'.came=s.came)(hn:r'.now=r.now)(ht:∀x∈r'.sh,∀j:Int,s'.th x.au j=s.th x.au j):CC s' r' C:=by
 have hg:∀g∈gls s',g∈gls s:=λg hg=>by
  rcases bn.1 hg with⟨x,hx,rfl⟩|⟨m,hm,rfl⟩
  .obtain⟨y,hy,e,_⟩:=h1 x hx;exact bn.2 (Or.inl ⟨y,hy,e.symm⟩)
  rcases h2 m hm with hm|⟨y,hy,rfl⟩
  .exact bn.2 (Or.inr ⟨m,hm,rfl⟩)
  exact bn.2 (Or.inl ⟨y,hy,rfl⟩)
 refine⟨λx hx=>?_,λm hm=>?_,λx hx=>?_,λm hm=>?_,λg h=>by rw[hc,hn];exact c.rng g (hg g h),λg h g' h'=>c.ord g (hg g h) g' (hg g' h'),λg h g' h'=>c.inj g (hg g h) g' (hg g' h'),λj hj=>?_,λx hx j hj=>?_⟩
 .obtain⟨y,hy,e1,e2⟩:=h1 x hx;rw[e1,e2];exact c.ps y hy
 .rcases h2 m hm with hm|⟨y,hy,rfl⟩
  .exact c.pm m hm
  exact c.ps y hy
 .obtain⟨y,hy,e1,e2,_⟩:=h3 x hx;rw[e1,e2];exact c.rs y hy
 .rcases h4 m hm with hm|⟨y,hy,rfl⟩
  .exact c.rm m hm
  exact c.rs y hy
 .have hj':j<s.aL.length:=by rw[<-hv];exact hj
  obtain⟨z,h5,h6⟩:=c.vb j hj';have e:s'.aL[j]=s.aL[j]:=by simp only[hv]
  exact⟨z,by rw[hb];exact h5,by rw[hc,hn,e];exact h6.sub hg⟩
 obtain⟨y,hy,e1,e2,e3⟩:=h3 x hx;obtain⟨z,h5,h6⟩:=c.tb y hy j (by rw[<-hv];exact hj);exact⟨z,by rw[e3];exact h5,by rw[hc,hn,ht x hx,e1];exact h6.sub hg⟩
theorem dK.vv(h:dK s r q):s.ss.map Sn.au=r.sh.map aS.au:=by have e:=congrArg (List.map (λx:Int×Int×Int=>x.1)) h.ss;rw[List.map_map,List.map_map]at e;exact e
theorem dK.iQ(h:dK s r q):r.sh.length=s.ss.length:=by have:=congrArg List.length h.ss;simpa using this.symm
theorem dK.pY(h:dK s r q):r.ms.length=s.ms.length:=by have:=congrArg List.length h.ms;simpa using this.symm
theorem dK.le(h:dK s r q){q':Nat}(hq:q≤q'):dK s r q':=
 ⟨h.id,h.bl,h.dat,h.last,⟨⟨h.cm.1.1,by have:=h.cm.1.2;omega⟩,h.cm.2⟩,h.ss,h.ms,h.th,h.len,h.nd,h.Qc,h.mp,h.gr,h.tr,h.ho,h.cc,⟨h.rn.1,by have:=h.rn.2;omega⟩,by have:=h.lg;omega,by have:=h.cn;omega⟩
theorem dK.Zj(h:dK s r q):(r.sh.map aS.au).Nodup:=by rw[<-h.vv];exact h.nd
theorem dK.fi(h:dK s r q)(g:Int):fi (λy:aS=>y.au==g) 0 r.sh=fi (λy:Sn=>y.au==g) 0 s.ss:=by have e1:=sP aS.au (λz:Int=>z==g) r.sh 0;have e2:=sP Sn.au (λz:Int=>z==g) s.ss 0;rw[h.vv,<-e1]at e2;exact e2.symm
theorem dK.Me(h:dK s r q)(g:Int):YtjceeemlilnplaaGreatDoor.fi (λy:Int×Int=>y.1==g) 0 r.ms=YtjceeemlilnplaaGreatDoor.fi (λy:Int×Int=>y.1==g) 0 s.ms:=by have e1:=sP (Prod.fst:Int×Int->Int) (λz:Int=>z==g) r.ms 0;have e2:=sP (Prod.fst:Int×Int->Int) (λz:Int=>z==g) s.ms 0;rw[h.ms,<-e1]at e2;exact e2.symm
theorem jv{α:Type}(p:α->Bool)(l:List α):YtjceeemlilnplaaGreatDoor.fi p 0 l=-1∨∃j,∃h:j<l.length,YtjceeemlilnplaaGreatDoor.fi p 0 l=(j:Int)∧p l[j]=true:=by
 by_cases hx:∃x∈l,p x=true
 .obtain⟨j,hj,e,h⟩:=dx l 0 hx;exact Or.inr ⟨j,hj,by simpa using e,h⟩
 exact Or.inl (gB l 0 (λx h=>by cases hp:p x;rfl;exact absurd ⟨x,h,hp⟩ hx))
theorem dK.at(h:dK s r q){j:Nat}(hj:j<s.ss.length):t3 s.ss[j]=r3 (r.sh[j]'(by rw[h.iQ];exact hj)):=by have e:=congrArg (λl=>l[j]?) h.ss;simp only[List.getElem?_map]at e;rw[dp hj,dp (by rw[h.iQ];exact hj)]at e;simpa using e
theorem dK.setH(h:dK s r q){j:Nat}{x:Sn}{y:aS}(hx:s.ss[j]?=some x)(hy:r.sh[j]?=some y){z:Int}(hz:0≤z∧z≤9){c:UInt8}{t:cC}{lv:Value}(ht:t.size≤50):dK ((s.setH j x z).noted c t lv) (r.setH j y z) (q+1):=by
 have hj:j<s.ss.length:=(df.1 hx).1;have ex:=(df.1 hx).2;have ey:=(df.1 hy).2;have hxy:=h.at hj;rw[ex,ey]at hxy;have hss:((s.setH j x z).noted c t lv).ss=s.ss.set j (x.hold z):=rfl;have hsh:(r.setH j y z).sh=r.sh.set j (y.hold z):=rfl;have hg1:((s.ss.set j (x.hold z)).map Sn.au)=s.ss.map Sn.au:=by
  have e:(x.hold z).au=(s.ss.map Sn.au)[j]'(by simpa using hj):=by rw[List.getElem_map,ex];rfl
  rw[List.map_set,e,List.set_getElem_self]
 have hmem:∀u∈s.ss.set j (x.hold z),∃v∈s.ss,u.au=v.au∧u.came=v.came∧u.time=v.time∧(u.holds=v.holds∨u.holds=z):=λu hu=>by
  rcases ik hu with hu|rfl
  .exact⟨u,hu,rfl,rfl,rfl,Or.inl rfl⟩
  exact⟨x,eW hx,rfl,rfl,rfl,Or.inr rfl⟩
 have Np:∀u∈r.sh.set j (y.hold z),∃v∈r.sh,u.au=v.au∧u.came=v.came∧u.dat=v.dat∧u.born=v.born:=λu hu=>by
  rcases ik hu with hu|rfl
  .exact⟨u,hu,rfl,rfl,rfl,rfl⟩
  exact⟨y,eW hy,rfl,rfl,rfl,rfl⟩
 obtain⟨C,cc⟩:=h.cc;refine⟨h.id,h.bl,h.dat,h.last,⟨⟨h.cm.1.1,by have:=h.cm.1.2;show s.came≤_;omega⟩,h.cm.2⟩,?_,h.ms,?_,⟨by rw[hss,eR];exact h.len.1,h.len.2⟩,by rw[hss,hg1];exact h.nd,h.Qc,h.mp,?_,?_,?_,⟨C,cc.sub ?_ (λm hm=>Or.inl hm) ?_ (λm hm=>Or.inl hm) rfl rfl rfl rfl (λ_ _ _=>rfl)⟩,⟨h.rn.1,by have:=h.rn.2;show r.now≤_;omega⟩,?_,by have:=h.cn;show s.cnt≤_;omega⟩
 .rw[hss,hsh,List.map_set,List.map_set,h.ss];congr 1;unfold t3 r3 at hxy⊢;simp only[Prod.mk.injEq]at hxy;show(x.au,x.time,z)=(y.au,y.time,z);rw[hxy.1,hxy.2.1]
 .intro u hu k hk;rw[hsh]at hu;obtain⟨v,hv,e1,_,e3,_⟩:=Np u hu;rw[e1,e3];exact h.th v hv k hk
 .intro g hg;refine h.gr g ?_;unfold gls at hg⊢;rw[hss,hg1]at hg;exact hg
 .intro u hu;obtain⟨v,hv,_,_,e,_⟩:=hmem u hu;rw[e];exact h.tr v hv
 .intro u hu;obtain⟨v,hv,_,_,_,e⟩:=hmem u hu;rcases e with e|e
  .rw[e];exact h.ho v hv
  rw[e];exact hz
 .intro u hu;obtain⟨v,hv,e1,e2,_⟩:=hmem u hu;exact⟨v,hv,e1,e2⟩
 .intro u hu;obtain⟨v,hv,e1,e2,_,e4⟩:=Np u hu;exact⟨v,hv,e1,e2,e4⟩
 show(s.log++entry c t).length≤_;have:=h.lg;have e:(entry c t).length=t.size+2:=by simp[entry]
 rw[dE];omega
end
end Go.Proofs.YtjceeemlilnplaaGreatDoor
