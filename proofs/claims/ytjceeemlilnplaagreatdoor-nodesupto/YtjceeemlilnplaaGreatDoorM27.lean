import Derived.Test.YtjceeemlilnplaaGreatDoorM04
import Derived.Test.YtjceeemlilnplaaGreatDoorM11
import Derived.Test.YtjceeemlilnplaaGreatDoorM22
import Derived.Test.YtjceeemlilnplaaGreatDoorM26
set_option maxRecDepth 100000
set_option maxHeartbeats 12800000
set_option linter.all false
namespace Go.Proofs.YtjceeemlilnplaaGreatDoor
open Go.RowKit Go.Maps Go.MuLone
structure Vw(w:World)(kb b:Nat)(last:Int)(rv:Value):Prop where
 c0:w.cell? (Ad kb 0)=some (.p b)
 c1:w.cell? (Ad kb 1)=some (.i last)
 c2:w.cell? (Ad kb 2)=some rv
theorem qY(B b kb:Nat)(s:aK)(last:Int)(rv:Value)(w:World)(h:aC B w b 0 s)(hl:s.ss.length≤12)(hk:Vw w kb b last rv):
 Rc 88 #[.p kb] w (.i (gy s.ss)) λw'=>aC B w' b 0 s∧Fr (foot b s) w w':=by
 have HS:=Hd (oL B b s w h hl);have c0:=hk.c0;obtain⟨n,hn⟩:=eX s.ss.length;rw[hn]at HS;have HN:=Hd hn;clear h hk hn;by_cases h0:n=0
 .subst h0;have e1:gy s.ss=0:=by rw[ie HN.o];rfl
  rw[e1];clear e1;go_enter Tryz.func88,Tryz.ntmps88;go_wp2_with (go_at_call 21;refine HS.o.mono ?_;rintro e w2 ⟨gg,rfl,hgg,hg2,r2,f2⟩;have H2:=Hj2 r2 f2;clear r2 f2 hg2);go_ret;exact⟨rfl,H2.o⟩
 have hj:n-1<s.ss.length:=by rw[HN.o];omega
 have e1:gy s.ss=s.ss[n-1].au:=by unfold gy;rw[kO,HN.o,dp hj];rfl
 rw[e1];obtain⟨g,hg⟩:=eX s.ss[n-1].au;rw[hg];obtain⟨j,hjj⟩:=eX (n-1);have HC:Hid (∀(W:World)gg,W.heap[gg]?=some (.cells (dL (s.ss.map t3)).toArray 84 (0,0))->W.cell? (Ad gg (j*3))=some (.i g)):=λW gg hW=>by
  have hl3:n-1<(s.ss.map t3).length:=by rw[eI];exact hj
  have:=(iq (s.ss.map t3) (n-1) hl3).1;rw[cell_of hW,dq,<-hjj,this,List.getElem_map];rw[<-hg];rfl
 have q1:IntKind.i64.wrap ((n:Int)-1)=(j:Int):=by rw[show(n:Int)-1=(j:Int) by omega];exact aD ⟨by omega,by omega⟩
 have q2:(n:Int)-1=(j:Int):=by omega
 have q3:wrap64 (j:Int)=(j:Int):=qN ⟨by omega,by omega⟩;have j0:(0:Int)≤(j:Int):=by omega
 have j1:(j:Int)<(n:Int):=by omega
 have n0:¬(n:Int)=0:=by omega
 have n1:((n:Int)==0)=false:=by simpa using n0
 clear e1 hg hjj hj;go_enter Tryz.func88,Tryz.ntmps88;go_wp2_with (go_at_call 21;refine HS.o.mono ?_;rintro e w2 ⟨gg,rfl,hgg,hg2,r2,f2⟩;have H2:=Hj2 r2 f2;have d2:=HC.o w2 gg hg2;clear r2 f2 hg2);go_ret;exact⟨rfl,H2.o⟩
def Fz(l:List Sn):Int:=l.foldl (λm x=>max m x.time) 0
theorem II(l:List Sn)(k:Nat)(h:k<l.length):Fz (l.take (k+1))=max (Fz (l.take k)) l[k].time:=by unfold Fz;rw[ew h,List.foldl_append];rfl
theorem vR(B b kb:Nat)(s:aK)(last:Int)(rv:Value)(w:World)(h:aC B w b 0 s)(hl:s.ss.length≤12)(hk:Vw w kb b last rv):
 Rc 144 #[.p kb] w (.i (Fz s.ss)) λw'=>aC B w' b 0 s∧Fr (foot b s) w w':=by
 have HS:=Hd (oL B b s w h hl);have c0:=hk.c0;obtain⟨n,hn⟩:=eX s.ss.length;rw[hn]at HS hl;have HN:Hid (s.ss.length=n∧w.heap.size=w.heap.size):=⟨hn,rfl⟩;clear h hk hn;go_enter Tryz.func144,Tryz.ntmps144;go_wp2_with (go_at_call 21;refine HS.o.mono ?_;rintro e w2 ⟨gg,rfl,hgg,hg2,r2,f2⟩;have H2:=Hj3 r2 f2 hg2;clear r2 f2 hg2);go_loopw [3,13] (λm i wr=>∃k:Nat,k≤n∧i=.i k∧m=.i (Fz (s.ss.take k))∧Hid (Fr [] w2 wr)) (λ_ i _=>n-(intOf i).toNat)
 case atStart=>exact⟨0,dC _,rfl,rfl,fR⟩
 obtain⟨k,hk,rfl,rfl,HK⟩:=hrel;obtain⟨W3,hW3⟩:=eY wr;subst hW3;clear HS c0;by_cases hlt:k<n
 .have hltz:(k:Int)<(n:Int):=by omega
  have hkl:k<s.ss.length:=by rw[HN.o.1];exact hlt
  have hl3:k<(s.ss.map t3).length:=by rw[eI];exact hkl
  have hb3:W3.heap[gg]?=some (.cells (dL (s.ss.map t3)).toArray 84 (0,0)):=by rw[HK.o.block gg (cY.1 H2.o.2.2).1 (by simp)];exact H2.o.2.2
  obtain⟨g0,g1,g2⟩:=iq (s.ss.map t3) k hl3;rw[List.getElem_map]at g0 g1 g2;have hsu:=II s.ss k hkl;obtain⟨x,hx⟩:=eX s.ss[k];rw[hx]at g0 g1 g2 hsu;have e0:W3.cell? (Ad gg (k*3))=some (.i x.au):=by rw[cell_of hb3,dq];exact g0
  have e1:W3.cell? (Ad gg (k*3+1))=some (.i x.time):=by rw[cell_of hb3,dq];exact g1
  have e2:W3.cell? (Ad gg (k*3+2))=some (.i x.holds):=by rw[cell_of hb3,dq];exact g2
  obtain⟨m,hm⟩:=eX (Fz (s.ss.take k));obtain⟨t,ht⟩:=eX x.time;rw[hm,ht]at hsu;rw[ht]at e1;rw[hm];have M8:=Hd hsu;clear g0 g1 g2 hsu hx hb3 hl3 hkl hm ht;rcases Int.lt_trichotomy m t with hmt|hmt|hmt
  .have e:max m t=t:=by omega
   rw[e]at M8;clear e;have XV:¬t≤m:=by omega
   go_wp2;go_roundw
   case rel=>exact⟨k+1,by omega,by go_num,by rw[M8.o]<;>exact congrArg (Value.int _) (by omega),HK.o.alloc _⟩
   simp[intOf];omega
  .subst hmt;have e:max m m=m:=by omega
   rw[e]at M8;clear e;go_wp2;all_goals
    go_roundw
    case rel=>exact⟨k+1,by omega,by go_num,by rw[M8.o]<;>exact congrArg (Value.int _) (by omega),HK.o.alloc _⟩
    simp[intOf];omega
  have e:max m t=m:=by omega
  rw[e]at M8;clear e;have XV:¬m≤t:=by omega
  go_wp2;go_roundw
  case rel=>exact⟨k+1,by omega,by go_num,by rw[M8.o]<;>exact congrArg (Value.int _) (by omega),HK.o.alloc _⟩
  simp[intOf];omega
 have hkk:k=n:=by omega
 have e:s.ss.take k=s.ss:=eL (by rw[HN.o.1];omega);rw[e];have hltz:¬(k:Int)<(n:Int):=by omega
 go_wp2;go_ret;exact⟨rfl,H2.o.1.aA HK.o,H2.o.2.1.trans HK.o (by simp)⟩
def iY(O:gq)(gs:List Int)(kp:Nat->Bool)(r:ak):Nat->ak
 |0=>r
 |k+1=>if kp k then iY O gs kp r k else(O.dst (iY O gs kp r k) (Kp.Pl.tm gs k)).2
def cO(O:gq)(gs:List Int)(r:ak):Nat->Bool×ak
 |0=>(true,r)
 |k+1=>if(cO O gs r k).1 then(decide ((O.dst (cO O gs r k).2 (Kp.Pl.tm gs k)).1≠0),(O.dst (cO O gs r k).2 (Kp.Pl.tm gs k)).2)else cO O gs r k
def fq(O:gq)(now last:Int)(rs:List (Int×Int))(r:ak):ak:=
 let gs:=r.sh.map aS.au
 let r1:=iY O gs (Kp.Pl.keepR now (r.sh.map aS.time) last rs) r (r.sh.length-1)
 if r1.sh.length=12 then(cO O gs r1 (r.sh.length-1)).2 else r1
def Bk(F:List Nat)(w:World)(x:Nat)(o:Obj):Prop:=x∉F∧w.heap[x]?=some o
def Sk(B:Nat)(w:World)(b:Nat)(F:List Nat)(r:ak)(n:Nat):Prop:=St B w b F r n∧Ok n r
def iw(B:Nat)(w:World)(b:Nat)(F:List Nat)(r:ak)(n:Nat):Prop:=Eb B w b F r∧Ok n r
section
variable {B:Nat}{w w' w1 w2 W:World}{b rb x:Nat}{r r' r0:ak}{n k q:Nat}{F F' SK:List Nat}{f g:Nat}{args:Nat->Array Value}{v:Value}{o:Obj}{O:gq}
theorem Bk.lt(h:Bk F w x o):x<w.heap.size:=(cY.1 h.2).1
theorem Bk.step(h:Bk F w x o)(g:Gw F F' w w'):Bk F' w' x o:=
 ⟨λhm=>by
  rcases g.2 x hm with h1|h1
  .exact h.1 h1
  have:=h.lt;omega,(g.1.block x h.lt h.1).trans h.2⟩
theorem Bk.same(h:Bk F w x o)(f:Fr [] w w'):Bk F w' x o:=⟨h.1,(f.block x h.lt (by simp)).trans h.2⟩
theorem St.lt(h:St B w b F r q):∀k∈F,B≤k∧k<w.heap.size:=by obtain⟨s,rp,m,rfl⟩:=h;exact rp.lt
theorem Eb.lt(h:Eb B w b F r):∀k∈F,B≤k∧k<w.heap.size:=by obtain⟨r0,_,rp,rfl⟩:=h;exact rp.lt
theorem Sk.same(h:Sk B w b F r n)(hf:Fr [] w w'):Sk B w' b F r n:=⟨h.1.same hf,h.2⟩
theorem iw.same(h:iw B w b F r n)(hf:Fr [] w w'):iw B w' b F r n:=⟨h.1.same hf,h.2⟩
theorem Sk.le(h:Sk B w b F r n)(hk:n≤k):Sk B w b F r k:=⟨h.1.le hk,h.2.le hk⟩
theorem iw.le(h:iw B w b F r n)(hk:n≤k):iw B w b F r k:=⟨h.1,h.2.le hk⟩
theorem Sk.new(h:Sk B w b F r n)(hx:w.heap.size≤x):x∉F:=λhm=>by have:=(h.1.lt x hm).2;omega
theorem iw.new(h:iw B w b F r n)(hx:w.heap.size≤x):x∉F:=λhm=>by have:=(h.1.lt x hm).2;omega
theorem BC.u(h:BC f g args r v r')(hs:Sk B w b F r n)(hn:n≤1000000000):Rc f (args b) w v λw'=>∃F',Sk B w' b F' r' (n+1)∧Gw F F' w w':=by refine(h.1 B b F n w hs.1 hn).mono ?_;rintro e w' ⟨he,F',s',g'⟩;exact⟨he,F',⟨s',h.2.2 n hs.2⟩,g'⟩
theorem BC.ref(h:BC f g args r v r')(hs:iw B w b F r n):Rc g (args b) w v λw'=>∃F',iw B w' b F' r' (n+1)∧Gw F F' w w':=by refine(h.2.1 B b F w hs.1).mono ?_;rintro e w' ⟨he,F',s',g'⟩;exact⟨he,F',⟨s',h.2.2 n hs.2⟩,g'⟩
theorem MO(hO:bE O){g:Int}(hg:In64 g){y:Nat}(hs:Sk B w b F r n)(hn:n≤1000000000)(hy:Bk F w y (.cells #[.i g] 3 (0,0))):Rc 120 #[.p b,.slice (some (Ad y 0)) 1 1] w (fC (O.dst r g).1) λw'=>∃F',Sk B w' b F' (O.dst r g).2 (n+1)∧Gw F F' w w':=by
 obtain⟨⟨h1,_,h3⟩,_⟩:=hO.dst r g (hs.2.le hn) hg;refine(h1 B b F n w (some (Ad y 0)) 1 hs.1 hn ⟨by simp,λ_=>⟨y,0,rfl,λi hi=>?_⟩⟩ (λk off e _=>by cases e;exact hy.1)).mono ?_
 .have:i=0:=by simp at hi;omega
  subst this;rw[cell_of hy.2];rfl
 rintro e w' ⟨he,F',s',g'⟩;exact⟨he,F',⟨s',h3 n hs.2⟩,g'⟩
theorem MP(hO:bE O){g:Int}(hg:In64 g){y:Nat}(hs:iw B w b F r n)(hn:n≤1000000000)(hy:Bk F w y (.cells #[.i g] 3 (0,0))):Rc 121 #[.p b,.slice (some (Ad y 0)) 1 1] w (fC (O.dst r g).1) λw'=>∃F',iw B w' b F' (O.dst r g).2 (n+1)∧Gw F F' w w':=by
 obtain⟨⟨_,h1,h3⟩,_⟩:=hO.dst r g (hs.2.le hn) hg;refine(h1 B b F w (some (Ad y 0)) 1 hs.1 ⟨by simp,λ_=>⟨y,0,rfl,λi hi=>?_⟩⟩ (λk off e _=>by cases e;exact hy.1)).mono ?_
 .have:i=0:=by simp at hi;omega
  subst this;rw[cell_of hy.2];rfl
 rintro e w' ⟨he,F',s',g'⟩;exact⟨he,F',⟨s',h3 n hs.2⟩,g'⟩
theorem uJ{gs:List Int}(h:(cO O gs r k).1=false):∀j,k≤j->cO O gs r j=cO O gs r k:=λj hj=>by
 induction j with
 |zero=>
  have:k=0:=by omega
  rw[this]
 |succ j ih=>
  by_cases hk:k=j+1
  .rw[hk]
  have e:=ih (by omega);show(if(cO O gs r j).1 then _ else cO O gs r j)=_;rw[e,h];rfl
theorem qC(h:Sk B w b F r n):Cl 21 #[.p b] w λe w'=>∃gg,e=.returned (.slice (some (Ad gg 0)) r.sh.length r.sh.length)∧w.heap.size≤gg∧Bk F w' gg (.cells (dL (r.sh.map r3)).toArray 84 (0,0))∧Sk B w' b F r n∧Gw F F w w':=by obtain⟨⟨s,rp,m,rfl⟩,ho⟩:=h;refine(oL B b s w rp m.len.1).mono ?_;rintro e w' ⟨gg,rfl,hg,hb,rp',f⟩;rw[m.ss]at hb;exact⟨gg,by rw[m.iQ],hg,⟨λhm=>by have:=(rp.lt gg hm).2;omega,hb⟩,⟨⟨s,rp',m,rfl⟩,ho⟩,f,λk hk=>Or.inl hk⟩
theorem Ce(h:Sk B w b F r n):Cl 25 #[.p b] w λe w'=>∃gg,e=.returned (.slice (some (Ad gg 0)) r.ms.length r.ms.length)∧w.heap.size≤gg∧Bk F w' gg (.cells (bV (r.ms.map Prod.fst)).toArray 3 (0,0))∧Sk B w' b F r n∧Gw F F w w':=by obtain⟨⟨s,rp,m,rfl⟩,ho⟩:=h;refine(D6 B b s w rp m.len.2).mono ?_;rintro e w' ⟨gg,rfl,hg,hb,rp',f⟩;rw[m.ms]at hb;exact⟨gg,by rw[m.pY],hg,⟨λhm=>by have:=(rp.lt gg hm).2;omega,hb⟩,⟨⟨s,rp',m,rfl⟩,ho⟩,f,λk hk=>Or.inl hk⟩
theorem yw(h:Sk B w b F r n){kb:Nat}{last:Int}{rv:Value}(hk:Vw w kb b last rv):Rc 88 #[.p kb] w (.i (aI r)) λw'=>Sk B w' b F r n∧Gw F F w w':=by obtain⟨⟨s,rp,m,rfl⟩,ho⟩:=h;refine(qY B b kb s last rv w rp m.len.1 hk).mono ?_;rintro e w' ⟨rfl,rp',f⟩;exact⟨by rw[m.newest],⟨⟨s,rp',m,rfl⟩,ho⟩,f,λk hk=>Or.inl hk⟩
theorem Ok.len(h:Ok n r):r.sh.length≤12∧r.ms.length≤12∧(r.sh.map aS.au).Nodup∧(∀x∈r.sh,(1≤x.au∧x.au≤999999999)∧0≤x.time∧x.time≤1073741824):=by
 obtain⟨s,q,m,_⟩:=h;have l1:=m.len;refine⟨by have:=m.iQ;omega,by have:=m.pY;omega,m.Zj,λx hx=>?_⟩;obtain⟨j,hj,e⟩:=List.getElem_of_mem hx;have hy:r.sh[j]?=some x:=by rw[dp hj,e]
 obtain⟨y,hys,hg,hh,hym⟩:=m.spot hy;have hj':j<s.ss.length:=(df.1 hys).1;have e9:=m.at hj';rw[(df.1 hys).2,e]at e9;unfold t3 r3 at e9;simp only[Prod.mk.injEq]at e9;rw[<-e9.1,<-e9.2.1];exact⟨m.gr _ (bn.2 (Or.inl ⟨y,hym,rfl⟩)),m.tr y hym⟩
end
end Go.Proofs.YtjceeemlilnplaaGreatDoor
