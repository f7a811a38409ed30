import Derived.Test.YtjceeemlilnplaaGreatDoorM27
import Derived.Deep.RegionHeld3
import Derived.Test.YtjceeemlilnplaaGreatDoorM04
import Derived.Test.YtjceeemlilnplaaGreatDoorM09
import Derived.Test.YtjceeemlilnplaaGreatDoorM28
import Derived.Test.YtjceeemlilnplaaGreatDoorM11
import Derived.Deep.AppendLies
import Derived.Test.YtjceeemlilnplaaGreatDoorM13
import Derived.Test.YtjceeemlilnplaaGreatDoorM29
set_option maxRecDepth 100000
set_option maxHeartbeats 12800000
set_option linter.all false
namespace Go.Proofs.YtjceeemlilnplaaGreatDoor
open Go.RowKit Go.Maps Go.MuLone
structure Kr(B b kb gg:Nat)(kc:Array Value)(kt:TypeId)(l:List (Int×Int×Int))(w:World)(F:List Nat)(r:ak)(n:Nat):Prop where
 sk:Sk B w b F r n
 kb:Bk F w kb (.cells kc kt (0,0))
 row:Bk F w gg (.cells (dL l).toArray 84 (0,0))
section
variable {B b kb gg:Nat}{kc:Array Value}{kt:TypeId}{l:List (Int×Int×Int)}{w w':World}{F F':List Nat}{r r':ak}{n n':Nat}
theorem Kr.same(h:Kr B b kb gg kc kt l w F r n)(f:Fr [] w w'):Kr B b kb gg kc kt l w' F r n:=⟨h.sk.same f,h.kb.same f,h.row.same f⟩
theorem Kr.step(h:Kr B b kb gg kc kt l w F r n)(s:Sk B w' b F' r' n')(g:Gw F F' w w'):Kr B b kb gg kc kt l w' F' r' n':=⟨s,h.kb.step g,h.row.step g⟩
end
theorem GH(O:gq)(hO:bE O)(B b kb gg m cap n:Nat)(kc:Array Value)(kt:TypeId)(l:List (Int×Int×Int))(w:World)(F:List Nat)(r:ak)(h:Kr B b kb gg kc kt l w F r n)(hc:kc[0]?=some (.p b))(hm:m≤l.length)(hl12:l.length≤12)(hin:∀x∈l,In64 x.1)(hn:n+20≤1000000000):
 Rc 136 #[.p kb,.slice (some (Ad gg 0)) m cap] w (.tuple #[]) λw'=>∃F',Sk B w' b F' (cO O (l.map λx=>x.1) r m).2 (n+m)∧Gw F F' w w':=by
 have HH:=Hj2 h hO;obtain⟨gs,hgs⟩:=eX (l.map λx=>x.1);have HG:=Hd hgs;rw[hgs];clear h hO hgs;go_enter Tryz.func136,Tryz.ntmps136;go_wp2;go_loopw [8] (λi wr=>∃k:Nat,k≤m∧i=.i k∧Hid ((cO O gs r k).1=true∧∃F1,Kr B b kb gg kc kt l wr F1 (cO O gs r k).2 (n+k)∧Gw F F1 w wr)) (λi _=>m-(intOf i).toNat)
 case atStart=>exact⟨0,dC _,rfl,rfl,F,HH.o.1,Gw.refl _ _⟩
 obtain⟨k,hk,rfl,HK⟩:=hrel;obtain⟨W3,hW3⟩:=eY wr;subst hW3;obtain⟨hft,F1,hKr,Zi⟩:=HK.o;have fP:=Hj3 hft hKr Zi;clear HK hft hKr Zi;by_cases hlt:k<m
 .have hltz:(k:Int)<(m:Int):=by omega
  have hkl:k<l.length:=by omega
  obtain⟨g0,g1,g2⟩:=iq l k hkl;have hxi:=hin l[k] (eE hkl);have HT:Hid (Kp.Pl.tm gs k=l[k].1):=by rw[<-HG.o];show _=_;simp[Kp.Pl.tm,hkl]
  obtain⟨x,hx⟩:=eX l[k];rw[hx]at g0 g1 g2 hxi HT;obtain⟨z,t,hd⟩:=x;simp only at g0 g1 g2 hxi;have QC:=Hj2 HT.o hxi;have e0:W3.cell? (Ad gg (k*3))=some (.i z):=by rw[cell_of fP.o.2.1.row.2,dq];exact g0
  have e1:W3.cell? (Ad gg (k*3+1))=some (.i t):=by rw[cell_of fP.o.2.1.row.2,dq];exact g1
  have e2:W3.cell? (Ad gg (k*3+2))=some (.i hd):=by rw[cell_of fP.o.2.1.row.2,dq];exact g2
  obtain⟨W4,iI⟩:=eX (W3.alloc (.cells #[.i z,.i t,.i hd] 84));obtain⟨b5,hb5⟩:=eX W3.heap.size;have Og:Hid (Fr [] W3 W4):=by rw[<-iI];exact fR.alloc _
  have uh:Hid (Kr B b kb gg kc kt l W4 F1 (cO O gs r k).2 (n+k)∧Bk F1 W4 b5 (.cells #[.i z,.i t,.i hd] 84 (0,0))):=
   ⟨fP.o.2.1.same Og.o,fP.o.2.1.sk.new (by omega),by rw[<-iI,<-hb5];exact di W3 _⟩
  have s0:W4.cell? (Ad kb 0)=some (.p b):=by rw[cell_of uh.o.1.kb.2];exact hc
  have s5:cE W4 b5 0 z:=ce uh.o.2.2 rfl;have WH:kb<W4.heap.size:=uh.o.1.kb.lt;have WI:b5<W4.heap.size:=uh.o.2.lt;have MN:Hid (∀W,Fr [] W4 W->W.heap[W4.heap.size]?=some (.cells #[.i z] 3 (0,0))->Cl 120 #[.p b,.slice (some (Ad W4.heap.size 0)) 1 1] W λe w'=>∃en:Int,e=.returned (.i en)∧en=(O.dst (cO O gs r k).2 z).1∧w'.cell? (Ad b5 0)=some (.i z)∧w'.cell? (Ad kb 0)=some (.p b)∧∃F2,Kr B b kb gg kc kt l w' F2 (O.dst (cO O gs r k).2 z).2 (n+(k+1))∧Gw F F2 w w'):=λW hW hg=>by have hK:=uh.o.1.same hW;refine(MO HH.o.2 QC.o.2 hK.sk (by omega) ⟨uh.o.1.sk.new (eh _),hg⟩).mono ?_;rintro e w' ⟨he,F2,s2,g2⟩;have h5:=(uh.o.2.same hW).step g2;have hK2:=hK.step s2 g2;exact⟨_,he,rfl,ce h5.2 rfl,by rw[cell_of hK2.kb.2];exact hc,F2,hK2,(fP.o.2.2.trans (Gw.of (Og.o.trans hW (by simp)))).trans g2⟩
  clear g0 g1 g2 hx hxi hkl HT;go_wp2;clear e0 e1 e2 iI hb5;have dd1:(W4.alloc (.cells #[.i z] 3)).cell? (Ad kb 0)=some (.p b):=(du (ei W4 _ kb WH)).trans s0;have dd2:(W4.alloc (.cells #[.i z] 3)).cell? (Ad b5 0)=some (.i z):=(du (ei W4 _ b5 WI)).trans s5;go_region_held3 (λw'=>w'.cell? (Ad kb 0)=some (.p b)∧w'.cell? (Ad b5 0)=some (.i z))
   (first
     |exact⟨WJ,SI⟩
     |go_keep)
   (first
     |(go_at_call 120;refine(MN.o _ (by first|exact((Fr.refl [] W4).alloc _).drew|exact((Fr.refl [] W4).drew).alloc _|exact(Fr.refl [] W4).alloc _) (by exact di W4 _)).mono ?_;rintro e w6 ⟨en,rfl,hen,SI,WJ,k6⟩;have H6:=Hj2 hen k6;clear k6 hen))
  all_goals
   have HS:Hid (cO O gs r (k+1)=(decide ((O.dst (cO O gs r k).2 z).1≠0),(O.dst (cO O gs r k).2 z).2)):=by show(if(cO O gs r k).1 then _ else _)=_;rw[fP.o.1,QC.o.1];rfl
   by_cases hen:en=0
   .subst hen;go_wp2;refine ez (v:=.tuple #[]) (results_none rfl _ _ _) rfl ⟨rfl,?_⟩;obtain⟨h1,F2,k2,g2⟩:=H6.o;have hd:(cO O gs r (k+1)).1=false:=by rw[HS.o,<-h1];rfl
    have h9:=uJ hd m (by omega);rw[h9,HS.o];exact⟨F2,k2.sk.le (by omega),g2⟩
   have aam:(en==0)=false:=by simpa using hen
   have HS2:Hid ((cO O gs r (k+1)).1=true∧∃F1,Kr B b kb gg kc kt l w6 F1 (cO O gs r (k+1)).2 (n+(k+1))∧Gw F F1 w w6):=by obtain⟨h1,F2,k2,g2⟩:=H6.o;rw[HS.o];refine⟨by rw[<-h1];simpa using hen,F2,k2,g2⟩
   go_wp2;go_roundw
   case rel=>exact⟨k+1,by omega,by go_num,HS2⟩
   simp[intOf];omega
 have hltz:¬(k:Int)<(m:Int):=by omega
 have hkm:k=m:=by omega
 subst hkm;go_wp2;go_end0;exact⟨rfl,F1,fP.o.2.1.sk,fP.o.2.2⟩
def GQ(rs:List (Int×Int)):List Value:=rs.flatMap λx=>[.i x.1,.i x.2]
theorem KO(l:List (Int×Int))(i:Nat)(h:i<l.length):(GQ l)[i*2]?=some (.i l[i].1)∧(GQ l)[i*2+1]?=some (.i l[i].2):=by have hf:∀x:Int×Int,([Value.i x.1,.i x.2]:List Value).length=2:=λ_=>rfl;exact⟨flat_get hf l i h 0 (by omega),flat_get hf l i h 1 (by omega)⟩
def Rw(F:List Nat)(w:World)(RB:Nat)(ra:Option Addr)(rs:List (Int×Int))(rc:Nat):Prop:=w.ownsRow RB 172 2 (.slice ra rs.length rc) rs.length (GQ rs)∧∀k,(Value.slice ra rs.length rc).ownBlock=some k->k∉F
section
variable {w w' W:World}{F F':List Nat}{RB:Nat}{ra:Option Addr}{rs:List (Int×Int)}{rc:Nat}
theorem Rw.fr(h:Rw F w RB ra rs rc){E:List Nat}(f:Fr E w w')(hn:∀k,(Value.slice ra rs.length rc).ownBlock=some k->k∉E):Rw F w' RB ra rs rc:=⟨aj h.1 (λk hk=>f.block k (h.1.lt k hk).2 (hn k hk)),h.2⟩
theorem Rw.same(h:Rw F w RB ra rs rc)(f:Fr [] w w'):Rw F w' RB ra rs rc:=h.fr f (by simp)
theorem Rw.step(h:Rw F w RB ra rs rc)(g:Gw F F' w w'):Rw F' w' RB ra rs rc:=
 ⟨(h.fr g.1 h.2).1,λk hk hm=>by
  rcases g.2 k hm with h1|h1
  .exact h.2 k hk h1
  have:=(h.1.lt k hk).2;omega⟩
theorem Rw.row(h:Rw F w RB ra rs rc):Kp.Wh w ra rs rc:=by
 rcases Nat.eq_zero_or_pos rs.length with h0|h0
 .refine⟨?_,λh1=>by omega⟩;rw[h0];exact dC _
 obtain⟨g,rfl,hcap,hc⟩:=bR h.1 h0;refine⟨hcap,λ_=>⟨g,0,rfl,λi hi=>?_⟩⟩;obtain⟨h1,h2⟩:=KO rs i hi;have e1:=hc (i*2) (by omega);have e2:=hc (i*2+1) (by omega);rw[h1]at e1;rw[h2]at e2;exact⟨by simpa using e1,by simpa[Nat.add_assoc]using e2⟩
theorem GR{tb n:Nat}{zs:List Int}(h:W.heap[tb]?=some (.cells (bV zs).toArray 3 (0,0)))(hn:zs.length=n):Kp.Kn W (some (Ad tb 0)) zs n:=by refine⟨by omega,λh0=>⟨tb,0,rfl,λi hi=>?_⟩⟩;rw[eV,cell_of h,dq];simp[bV,Kp.Pl.tm,hi]
theorem Below.fr(h:Below w.heap.size w w'):Fr [] w w':=⟨h.os,h.tape,h.output,h.size,λk hk _=>h.block k hk⟩
theorem Oo(now last:Int)(tb:Nat)(zs:List Int)(KP:zs.length≤12)(ht:W.heap[tb]?=some (.cells (bV zs).toArray 3 (0,0)))(hr:Rw F W RB ra rs rc)(hrs:Kp.oO rs=true)(oW:0≤now∧now≤1073741824)(hz:∀z∈zs,0≤z∧z≤1073741824)(hl:0≤last∧last≤1000):
 Cl 135 #[.i now,.slice (some (Ad tb 0)) zs.length zs.length,.i last,.slice ra rs.length rc] W λe w'=>∃g cur,e=.returned (.tuple #[.slice (some (Ad g 0)) zs.length zs.length,.i 0])∧W.heap.size≤g∧w'.heap[g]?=some (.cells cur 4 (0,0))∧(∀i,i<zs.length->cur[i]?=some (.bool (Kp.Pl.keepR now zs last rs i)))∧Fr [] W w':=by
 have hrl:rs.length≤4:=by unfold Kp.oO at hrs;simp at hrs;exact hrs.1
 have hok:Kp.Vo now zs last rs=true:=by
  unfold Kp.Vo;have h1:Kp.JL now=true:=by unfold Kp.JL;simp;omega
  have h2:zs.all Kp.JL=true:=by rw[ja];intro z hz';have:=hz z hz';unfold Kp.JL;simp;omega
  rw[h1,h2,hrs];simp;omega
 refine(Kp.Vx now last (some (Ad tb 0)) ra zs rs zs.length rc W (GR ht rfl) hr.row (by omega) (by omega) (by omega) hok).mono ?_;rintro e w' ⟨g,rfl,ho,hb⟩;rcases ho.2 with h1|⟨g',c,cur,h1,hb',hg,_,_,hs,ht⟩
 .exact absurd h1.1 (by simp)
 have e:g=g':=by simpa using(Value.slice.inj h1).1
 subst e;refine⟨g,cur,rfl,hb',hg,λi hi=>?_,Below.fr hb⟩;have h9:=congrArg (λl=>l[i]?) ht;simp only[Kp.kr]at h9;rw[List.getElem?_take]at h9;simp[hi]at h9;exact h9
end
section
variable {B b kb gg RB:Nat}{kc:Array Value}{kt:TypeId}{l:List (Int×Int×Int)}{w w':World}{F F':List Nat}{r r':ak}{n n':Nat}
theorem Kr.mG(h:Kr B b kb gg kc kt l w F r n){tb:Nat}(f:Fr [tb] w w')(h1:tb∉F)(h2:kb≠tb)(h3:gg≠tb):Kr B b kb gg kc kt l w' F r n:=
 ⟨⟨h.sk.1.fr f (λk hk hm=>by simp at hm;subst hm;exact h1 hk),h.sk.2⟩,⟨h.kb.1,(f.block kb h.kb.lt (by simpa using h2)).trans h.kb.2⟩,⟨h.row.1,(f.block gg h.row.lt (by simpa using h3)).trans h.row.2⟩⟩
end
def FD(r:ak):List (Int×Int):=r.sh.map λx=>(x.time,0)
theorem Lu(r:ak):(FD r).map Prod.fst=r.sh.map aS.time:=by simp[FD]
theorem Ih(O:gq)(hO:bE O)(B b kb RB n0:Nat)(kc:Array Value)(kt:TypeId)(last now:Int)(ra:Option Addr)(rs:List (Int×Int))(rc:Nat)(w:World)(F:List Nat)(r:ak)(h:Sk B w b F r n0)(hkb:Bk F w kb (.cells kc kt (0,0)))(hc:kc[0]?=some (.p b)∧kc[1]?=some (.i last)∧kc[2]?=some (.slice ra rs.length rc))(Ua:Rw F w RB ra rs rc)(hrs:Kp.oO rs=true)(hlast:0≤last∧last≤1000)(oW:0≤now∧now≤1073741824)(hn0:n0+60≤1000000000):
 Rc 87 #[.p kb,.i now] w (.tuple #[]) λw'=>∃F',Sk B w' b F' (fq O now last rs r) (n0+24)∧Gw F F' w w':=by
 obtain⟨i0,hi,hz0,hz1,hz2⟩:=info_parts info3;have HS:=Hd (qC h);have HA:=Hj4 hkb Ua h.2 hO;have HP:Hid (Kp.oO rs=true∧(∀x∈r.sh,In64 x.au)∧(∀x∈r.sh,0≤x.time∧x.time≤1073741824)):=⟨hrs,λx hx=>by have:=(h.2.len.2.2.2 x hx).1;exact⟨by omega,by omega⟩,λx hx=>(h.2.len.2.2.2 x hx).2⟩;have c0:w.cell? (Ad kb 0)=some (.p b):=by rw[cell_of hkb.2];exact hc.1
 have HC:=Hd hc;have hl:=h.2.len.1;obtain⟨n,hn⟩:=eX r.sh.length;rw[hn]at HS hl;have HN:Hid (r.sh.length=n∧(FD r).length=n):=⟨hn,by simp[FD,hn]⟩;clear h hkb hn Ua hrs hO hc;go_enter Tryz.func87,Tryz.ntmps87;go_wp2_with (first
  |(go_at_call 21;refine HS.o.mono ?_;rintro e w1 ⟨gg,rfl,hgg,hg1,r1,f1⟩;have H1:Hid (Kr B b kb gg kc kt (r.sh.map r3) w1 F r n0∧Rw F w1 RB ra rs rc∧Gw F F w w1):=⟨⟨r1,HA.o.1.step f1,hg1⟩,HA.o.2.1.step f1,f1⟩;clear r1 f1 hg1 c0)
  |(at_make;refine wpList_make_full _ rfl _ _ 30 rfl w1.heap.size 3 i0 _ 1 Tryz.underlying30 hi hz0 hz1 _ _ _ _ n rfl rfl rfl rfl (by rw[hz2];omega) (by unfold maxLen;omega) (by simp) ?_;intro w2 hown2 hgrow2;have VK:Hid (Fr [] w1 w2):=fR.grown hgrow2 (λk h=>by cases h);have H2:=Hj4 (H1.o.1.same VK.o) (H1.o.2.1.same VK.o) (H1.o.2.2.trans (Gw.of VK.o)) (by have:=gF hown2;rw[<-HN.o.2,rD (FD r)]at this;exact this);clear hown2 hgrow2 VK))
 obtain⟨tb,htb⟩:=eX w1.heap.size;have htw:w.heap.size≤tb:=by rw[<-htb];exact H1.o.2.2.1.size
 have HTB:Hid (tb∉F∧kb≠tb∧gg≠tb∧∀k,(Value.slice ra rs.length rc).ownBlock=some k->k≠tb):=by
  rw[<-htb];refine⟨H1.o.1.sk.new (eh _),λe=>?_,λe=>?_,λk hk e=>?_⟩
  .have:=H1.o.1.kb.lt;omega
  .have:=H1.o.1.row.lt;omega
  have:=(H1.o.2.1.1.lt k hk).2;omega
 rw[htb]at H2⊢;clear htb H1 HS;go_loopw [23] (λi wr=>∃k:Nat,k≤n∧i=.i k∧Hid (Kr B b kb gg kc kt (r.sh.map r3) wr F r n0∧Rw F wr RB ra rs rc∧Gw F F w wr∧wr.heap[tb]?=some (.cells (bV (gH (FD r) k)).toArray 3 (0,0)))) (λi _=>n-(intOf i).toNat)
 case atStart=>exact⟨0,dC _,rfl,H2⟩
 obtain⟨k,hk,rfl,HK⟩:=hrel;obtain⟨W3,hW3⟩:=eY wr;subst hW3;clear H2;by_cases hlt:k<n
 .have hltz:(k:Int)<(n:Int):=by omega
  have hkl:k<(r.sh.map r3).length:=by rw[eI,HN.o.1];exact hlt
  have hks:k<r.sh.length:=by rw[HN.o.1];exact hlt
  obtain⟨g0,g1,g2⟩:=iq (r.sh.map r3) k hkl;rw[List.getElem_map]at g0 g1 g2;have hset:=uG (FD r) k (by rw[HN.o.2];exact hlt);have htp:(FD r)[k]'(by rw[HN.o.2];exact hlt)=(r.sh[k].time,0):=by simp[FD]
  rw[htp]at hset;obtain⟨x,hx⟩:=eX r.sh[k];rw[hx]at g0 g1 g2 hset;have e0:W3.cell? (Ad gg (k*3))=some (.i x.au):=by rw[cell_of HK.o.1.row.2,dq];exact g0
  have e1:W3.cell? (Ad gg (k*3+1))=some (.i x.time):=by rw[cell_of HK.o.1.row.2,dq];exact g1
  have e2:W3.cell? (Ad gg (k*3+2))=some (.i x.holds):=by rw[cell_of HK.o.1.row.2,dq];exact g2
  have ltb:tb<W3.heap.size:=(cY.1 HK.o.2.2.2).1;have hll:(bV (gH (FD r) k)).length=n:=by rw[BZ,uF _ _ (by rw[HN.o.2];omega),HN.o.2]
  have g3:∃v,W3.cell? (Ad tb k)=some v:=by rw[cell_of HK.o.2.2.2,dq];exact⟨_,dp (by omega)⟩
  obtain⟨y0,g3⟩:=g3;have z3:W3.frozen? (Ad tb k)=false:=ay HK.o.2.2.2 _;have zT:Hid (∀o,Kr B b kb gg kc kt (r.sh.map r3) ((W3.setCell (Ad tb k) (.i x.time)).alloc o) F r n0∧Rw F ((W3.setCell (Ad tb k) (.i x.time)).alloc o) RB ra rs rc∧Gw F F w ((W3.setCell (Ad tb k) (.i x.time)).alloc o)∧((W3.setCell (Ad tb k) (.i x.time)).alloc o).heap[tb]?=some (.cells (bV (gH (FD r) (k+1))).toArray 3 (0,0))):=λo=>by have hf:Fr [tb] W3 (W3.setCell (Ad tb k) (.i x.time)):=fR.setCell _ (Or.inl (by simp));have ha:Fr [] (W3.setCell (Ad tb k) (.i x.time)) ((W3.setCell (Ad tb k) (.i x.time)).alloc o):=fR.alloc _;obtain⟨t1,t2,t3,t4⟩:=HTB.o;refine⟨(HK.o.1.mG hf t1 t2 t3).same ha,(HK.o.2.1.fr hf (λk hk=>by simpa using t4 k hk)).same ha,⟨((HK.o.2.2.1.1.setCell _ (Or.inr htw)).alloc _),λk hk=>Or.inl hk⟩,?_⟩;rw[ei _ _ _ (by simpa using ltb),dy _ tb k _ _ _ HK.o.2.2.2,<-hset,<-Ca];simp
  clear g0 g1 g2 hx hset htp hkl hks hll;go_wp2;go_roundw
  case rel=>exact⟨k+1,by omega,by go_num,zT.o _⟩
  simp[intOf];omega
 have hltz:¬(k:Int)<(n:Int):=by omega
 have hkn:k=n:=by omega
 have HT:Hid (W3.heap[tb]?=some (.cells (bV (r.sh.map aS.time)).toArray 3 (0,0))):=by have:=HK.o.2.2.2;rw[hkn,<-HN.o.2,uH,Lu]at this;exact this
 have Ub:Hid (∀W,Fr [] W3 W->Cl 135 #[.i now,.slice (some (Ad tb 0)) n n,.i last,.slice ra rs.length rc] W λe w'=>∃g cur,e=.returned (.tuple #[.slice (some (Ad g 0)) n n,.i 0])∧W.heap.size≤g∧w'.heap[g]?=some (.cells cur 4 (0,0))∧(∀i,i<n->cur[i]?=some (.bool (Kp.Pl.keepR now (r.sh.map aS.time) last rs i)))∧Fr [] W w'):=λW hW=>by have h9:=Oo now last tb (r.sh.map aS.time) (by rw[eI,HN.o.1];exact hl) (by rw[hW.block tb (cY.1 HT.o).1 (by simp)];exact HT.o) (HK.o.2.1.same hW) HP.o.1 oW (λz hz=>by obtain⟨x,hx,rfl⟩:=fm.1 hz;exact HP.o.2.2 x hx) hlast;rw[eI,HN.o.1]at h9;exact h9
 have k1:W3.cell? (Ad kb 1)=some (.i last):=by rw[cell_of HK.o.1.kb.2];exact HC.o.2.1
 have k2:W3.cell? (Ad kb 2)=some (.slice ra rs.length rc):=by rw[cell_of HK.o.1.kb.2];exact HC.o.2.2
 go_wp2;go_region_held3 (λw'=>w'.cell? (Ad kb 1)=some (.i last)∧w'.cell? (Ad kb 2)=some (.slice ra rs.length rc))
  (first
    |exact⟨ZM,ZN⟩
    |go_keep)
  (first
    |(go_at_call 135;refine(Ub.o _ (by first|exact(Fr.refl [] W3).drew|exact Fr.refl [] W3)).mono ?_;rintro e w6 ⟨kg,cur,rfl,hkg,ZO,ZP,f6⟩;have f60:Fr [] W3 w6:=by first|exact f6|exact((Fr.refl [] W3).drew).trans f6 (by simp)
      have H6:Hid (Kr B b kb gg kc kt (r.sh.map r3) w6 F r n0∧Gw F F w w6∧Bk F w6 kg (.cells cur 4 (0,0))∧(∀i,i<n->cur[i]?=some (.bool (Kp.Pl.keepR now (r.sh.map aS.time) last rs i)))):=⟨HK.o.1.same f60,HK.o.2.2.1.trans (Gw.of f60),⟨HK.o.1.sk.new (by first|exact hkg|exact hkg),ZO⟩,ZP⟩;have ZM:w6.cell? (Ad kb 1)=some (.i last):=by rw[cell_of H6.o.1.kb.2];exact HC.o.2.1
      have ZN:w6.cell? (Ad kb 2)=some (.slice ra rs.length rc):=by rw[cell_of H6.o.1.kb.2];exact HC.o.2.2
      clear hkg ZO ZP f6 f60))
 obtain⟨m,hm⟩:=eX (n-1);have hmx:max 0 ((n:Int)-1)=(m:Int):=by omega
 have HM:=Hd hm;have hmn:m≤n:=by omega
 obtain⟨kp,hkp⟩:=eX (Kp.Pl.keepR now (r.sh.map aS.time) last rs);have TG:=Hd hkp;rw[hkp]at H6;obtain⟨gs,hgs⟩:=eX (r.sh.map aS.au);have XB:=Hd hgs;clear HK HT Ub k1 k2 ZM ZN hltz hm hkp hgs;go_wp2;go_loopw [56] (λi wr=>∃k:Nat,k≤m∧i=.i k∧Hid (∃F1,Kr B b kb gg kc kt (r.sh.map r3) wr F1 (iY O gs kp r k) (n0+k)∧Gw F F1 w wr∧Bk F1 wr kg (.cells cur 4 (0,0)))) (λi _=>m-(intOf i).toNat)
 case atStart=>exact⟨0,dC _,rfl,F,H6.o.1,H6.o.2.1,H6.o.2.2.1⟩
 obtain⟨k,hk,rfl,HK⟩:=hrel;obtain⟨W3,hW3⟩:=eY wr;subst hW3;obtain⟨F1,hK⟩:=HK.o;have fP:=Hd hK;clear HK hK;by_cases hlt:k<m
 .have hltz:(k:Int)<(m:Int):=by omega
  have aav:(k:Int)<(n:Int):=by omega
  have hkl:k<(r.sh.map r3).length:=by rw[eI,HN.o.1];omega
  have hks:k<r.sh.length:=by rw[HN.o.1];omega
  obtain⟨g0,g1,g2⟩:=iq (r.sh.map r3) k hkl;rw[List.getElem_map]at g0 g1 g2;have Pb:Hid (In64 r.sh[k].au∧Kp.Pl.tm gs k=r.sh[k].au):=by refine⟨HP.o.2.1 _ (eE hks),?_⟩;rw[<-XB.o];simp[Kp.Pl.tm,hks]
  obtain⟨x,hx⟩:=eX r.sh[k];rw[hx]at g0 g1 g2 Pb;have e0:W3.cell? (Ad gg (k*3))=some (.i x.au):=by rw[cell_of fP.o.1.row.2,dq];exact g0
  have e1:W3.cell? (Ad gg (k*3+1))=some (.i x.time):=by rw[cell_of fP.o.1.row.2,dq];exact g1
  have e2:W3.cell? (Ad gg (k*3+2))=some (.i x.holds):=by rw[cell_of fP.o.1.row.2,dq];exact g2
  obtain⟨W4,iI⟩:=eX (W3.alloc (.cells #[.i x.au,.i x.time,.i x.holds] 84));obtain⟨b5,hb5⟩:=eX W3.heap.size;have Og:Hid (Fr [] W3 W4):=by rw[<-iI];exact fR.alloc _
  have uh:Hid (Kr B b kb gg kc kt (r.sh.map r3) W4 F1 (iY O gs kp r k) (n0+k)∧Bk F1 W4 kg (.cells cur 4 (0,0))∧Bk F1 W4 b5 (.cells #[.i x.au,.i x.time,.i x.holds] 84 (0,0))):=
   ⟨fP.o.1.same Og.o,fP.o.2.2.same Og.o,fP.o.1.sk.new (by omega),by rw[<-iI,<-hb5];exact di W3 _⟩
  have hbl:W4.cell? (Ad kg k)=some (.bool (kp k)):=by rw[cell_of uh.o.2.1.2];exact H6.o.2.2.2 k (by omega)
  have s0:W4.cell? (Ad kb 0)=some (.p b):=by rw[cell_of uh.o.1.kb.2];exact HC.o.1
  have s5:cE W4 b5 0 x.au:=ce uh.o.2.2.2 rfl;have WH:kb<W4.heap.size:=uh.o.1.kb.lt;have WI:b5<W4.heap.size:=uh.o.2.2.lt;have MN:Hid (∀W,Fr [] W4 W->W.heap[W4.heap.size]?=some (.cells #[.i x.au] 3 (0,0))->Cl 120 #[.p b,.slice (some (Ad W4.heap.size 0)) 1 1] W λe w'=>∃en:Int,e=.returned (.i en)∧w'.cell? (Ad b5 0)=some (.i x.au)∧w'.cell? (Ad kb 0)=some (.p b)∧∃F2,Kr B b kb gg kc kt (r.sh.map r3) w' F2 (O.dst (iY O gs kp r k) x.au).2 (n0+(k+1))∧Gw F F2 w w'∧Bk F2 w' kg (.cells cur 4 (0,0))):=λW hW hg=>by have hK:=uh.o.1.same hW;refine(MO HA.o.2.2.2 Pb.o.1 hK.sk (by omega) ⟨uh.o.1.sk.new (eh _),hg⟩).mono ?_;rintro e w' ⟨he,F2,s2,g2⟩;have h5:=(uh.o.2.2.same hW).step g2;have hK2:=hK.step s2 g2;exact⟨_,he,ce h5.2 rfl,by rw[cell_of hK2.kb.2];exact HC.o.1,F2,hK2,(fP.o.2.1.trans (Gw.of (Og.o.trans hW (by simp)))).trans g2,(uh.o.2.1.same hW).step g2⟩
  have JV:Hid (iY O gs kp r (k+1)=if kp k then iY O gs kp r k else(O.dst (iY O gs kp r k) x.au).2):=by rw[<-Pb.o.2];rfl
  have TJ:=Hd (fP.o.2.1.trans (Gw.of Og.o));clear g0 g1 g2 hx hkl hks;cases hb:kp k with
  |true=>
   clear MN;rw[hb]at hbl JV;have HS:Hid (∃F1,Kr B b kb gg kc kt (r.sh.map r3) W4 F1 (iY O gs kp r (k+1)) (n0+(k+1))∧Gw F F1 w W4∧Bk F1 W4 kg (.cells cur 4 (0,0))):=by rw[JV.o];exact⟨F1,⟨uh.o.1.sk.le (by omega),uh.o.1.kb,uh.o.1.row⟩,TJ.o,uh.o.2.1⟩
   go_wp2;go_roundw
   case rel=>exact⟨k+1,by omega,by go_num,HS⟩
   simp[intOf];omega
  |false=>
   rw[hb]at hbl JV;go_wp2;clear e0 e1 e2 iI hb5;have dd1:(W4.alloc (.cells #[.i x.au] 3)).cell? (Ad kb 0)=some (.p b):=(du (ei W4 _ kb WH)).trans s0;have dd2:(W4.alloc (.cells #[.i x.au] 3)).cell? (Ad b5 0)=some (.i x.au):=(du (ei W4 _ b5 WI)).trans s5;go_region_held3 (λw'=>w'.cell? (Ad kb 0)=some (.p b)∧w'.cell? (Ad b5 0)=some (.i x.au))
    (first
      |exact⟨WJ,SI⟩
      |go_keep)
    (first
      |(go_at_call 120;refine(MN.o _ (by first|exact((Fr.refl [] W4).alloc _).drew|exact((Fr.refl [] W4).drew).alloc _|exact(Fr.refl [] W4).alloc _) (by exact di W4 _)).mono ?_;rintro e w7 ⟨en,rfl,SI,WJ,t7⟩;have H7:Hid (∃F1,Kr B b kb gg kc kt (r.sh.map r3) w7 F1 (iY O gs kp r (k+1)) (n0+(k+1))∧Gw F F1 w w7∧Bk F1 w7 kg (.cells cur 4 (0,0))):=(by rw[JV.o];exact t7);clear t7))
   all_goals
    go_wp2;go_roundw
    case rel=>exact⟨k+1,by omega,by go_num,H7⟩
    simp[intOf];omega
 have hltz:¬(k:Int)<(m:Int):=by omega
 have hkm:k=m:=by omega
 subst hkm;have k0:W3.cell? (Ad kb 0)=some (.p b):=by rw[cell_of fP.o.1.kb.2];exact HC.o.1
 obtain⟨r1,hr1⟩:=eX (iY O gs kp r k);rw[hr1]at fP;have HS:=Hd (qC fP.o.1.sk);have CG:Hid (fq O now last rs r=if r1.sh.length=12 then(cO O gs r1 k).2 else r1):=by show fq O now last rs r=_;unfold fq;simp only[HN.o.1,HM.o,XB.o,TG.o,hr1]
 obtain⟨n1,hn1⟩:=eX r1.sh.length;have CJ:=Hd hn1;have KP:n1≤12:=by rw[<-hn1];exact fP.o.1.sk.2.len.1
 rw[hn1]at HS CG;clear hn1 hr1;rcases Nat.lt_or_ge n1 12 with h12|h12
 .have h12z:¬(12:Int)≤(n1:Int):=by omega
  have Pf:¬n1=12:=by omega
  rw[if_neg Pf]at CG;go_wp2_with (first
   |(go_at_call 21;refine HS.o.mono ?_;rintro e w8 ⟨g2,rfl,hg2,hr2,r8,f8⟩;have H8:=Hj2 r8 (fP.o.2.1.trans f8);clear r8 f8 hr2 hg2 k0))
  clear fP;go_end0;exact⟨rfl,F1,by rw[CG.o];exact H8.o.1.le (by omega),H8.o.2⟩
 have h12z:(12:Int)≤(n1:Int):=by omega
 have Pf:n1=12:=by omega
 rw[if_pos Pf]at CG;go_wp2_with (first
  |(go_at_call 136;refine HD.o.mono ?_;rintro e w9 ⟨rfl,D9⟩;have H9:=Hd D9;clear D9)
  |(go_at_call 21;refine HS.o.mono ?_;rintro e w8 ⟨g2,rfl,hg2,hr2,r8,f8⟩;have H8:=Hj2 (fP.o.1.step r8 f8) (fP.o.2.1.trans f8);clear r8 f8 hr2 hg2 k0;have k8:w8.cell? (Ad kb 0)=some (.p b):=(by rw[cell_of H8.o.1.kb.2];exact HC.o.1);have HD:Hid (Rc 136 #[.p kb,.slice (some (Ad gg 0)) k n] w8 (.tuple #[]) λw'=>∃F',Sk B w' b F' (cO O gs r1 k).2 (n0+k+k)∧Gw F1 F' w8 w'):=(by have h9:=GH O HA.o.2.2.2 B b kb gg k n (n0+k) kc kt (r.sh.map r3) w8 F1 r1 H8.o.1 HC.o.1 (by rw[eI,HN.o.1];exact hmn) (by rw[eI,HN.o.1];exact hl) (λx hx=>by obtain⟨y,hy,rfl⟩:=fm.1 hx;exact HP.o.2.1 y hy) (by omega);rw[List.map_map,show((λx:Int×Int×Int=>x.1)∘r3)=aS.au from rfl,XB.o]at h9;exact h9)))
 have HP2:Hid (∃F',Sk B w9 b F' (fq O now last rs r) (n0+24)∧Gw F F' w w9):=by obtain⟨F',s9,g9⟩:=H9.o;exact⟨F',by rw[CG.o];exact s9.le (by omega),H8.o.2.trans g9⟩
 clear H8 fP H9;go_end0;exact⟨rfl,HP2.o⟩
def Ow(F:List Nat)(w:World)(base:Nat)(e:TypeId)(size:Nat)(v:Value)(n:Nat)(xs:List Value):Prop:=w.ownsRow base e size v n xs∧∀k,v.ownBlock=some k->k∉F
section
variable {w w' W:World}{F F':List Nat}{base size n:Nat}{e:TypeId}{v:Value}{xs:List Value}{B b q:Nat}{r r':ak}{g:Nat}
theorem Ow.same(h:Ow F w base e size v n xs)(f:Fr [] w w'):Ow F w' base e size v n xs:=⟨aj h.1 (λk hk=>f.block k (h.1.lt k hk).2 (by simp)),h.2⟩
theorem Ow.step(h:Ow F w base e size v n xs)(g:Gw F F' w w'):Ow F' w' base e size v n xs:=
 ⟨aj h.1 (λk hk=>g.1.block k (h.1.lt k hk).2 (h.2 k hk)),λk hk hm=>by
  rcases g.2 k hm with h1|h1
  .exact h.2 k hk h1
  have:=(h.1.lt k hk).2;omega⟩
theorem L8(h:iw B w b F r n)(z:Int):Rc 56 #[.p b,.i z] w (.i (fi (λx:aS=>x.au==z) 0 r.sh)) λw'=>w'=w:=by obtain⟨⟨r0,⟨sv,mv,rfl⟩,rp,rfl⟩,ho⟩:=h;exact aQ B b {r with sv:=sv,mv:=mv} z w rp (by have:=ho.len.1;show r.sh.length≤_;omega)
theorem o8(h:iw B w b F r n):Rc 92 #[.p b] w (.i (aI r)) λw'=>Fr [] w w':=by obtain⟨⟨r0,⟨sv,mv,rfl⟩,rp,rfl⟩,ho⟩:=h;exact iF B b {r with sv:=sv,mv:=mv} w rp ho.len.1
theorem iw.yS(h:iw B w b F r n):∃ao cap,w.cell? (Ad b 36)=some (.slice ao r.sh.length cap)∧b<w.heap.size∧(0<r.sh.length->∃gg,ao=some (Ad gg 0)∧r.sh.length≤cap∧∀k(hk:k<r.sh.length),w.cell? (Ad gg (k*36))=some (.i r.sh[k].au)∧w.cell? (Ad gg (k*36+1))=some (.i r.sh[k].time)):=by obtain⟨⟨r0,⟨sv,mv,rfl⟩,rp,rfl⟩,ho⟩:=h;obtain⟨ao,cap,hsv⟩:=ah rp.sh;refine⟨ao,cap,by rw[<-hsv];exact rp.cells.2.2.2.2.1,(rp.lt b (by simp[aN])).2,λh0=>?_⟩;have ho':=rp.sh;rw[hsv]at ho';obtain⟨gg,hgg,hcap,hcc⟩:=aB ho' h0;subst hgg;exact⟨gg,rfl,hcap,λk hk=>⟨rp.fE hsv k hk 0 (by omega),rp.fE hsv k hk 1 (by omega)⟩⟩
theorem L9(now last:Int)(a:Option Addr)(c:Nat)(zs:List Int){RB:Nat}{ra:Option Addr}{rs:List (Int×Int)}{rc:Nat}(KP:zs.length≤12)(ht:Kp.Kn W a zs c)(hr:Rw F W RB ra rs rc)(hrs:Kp.oO rs=true)(oW:0≤now∧now≤1073741824)(hz:∀z∈zs,0≤z∧z≤1073741824)(hl:0≤last∧last≤1000):
 Cl 139 #[.i now,.slice a zs.length c,.i last,.slice ra rs.length rc] W λe w'=>∃v,e=.returned (.tuple #[v,.i 0])∧w'.ownsRow W.heap.size 4 1 v zs.length (Kp.kr now zs last rs)∧Fr [] W w':=by
 have hrl:rs.length≤4:=by unfold Kp.oO at hrs;simp at hrs;exact hrs.1
 have hok:Kp.Vo now zs last rs=true:=by
  unfold Kp.Vo;have h1:Kp.JL now=true:=by unfold Kp.JL;simp;omega
  have h2:zs.all Kp.JL=true:=by rw[ja];intro z hz';have:=hz z hz';unfold Kp.JL;simp;omega
  rw[h1,h2,hrs];simp;omega
 refine(Kp.Ma now last a ra zs rs c rc W ht hr.row (by omega) (by unfold Kp.b0;simp;omega)).mono ?_;rintro e w' (⟨h1,_⟩|⟨_,v,rfl,ho,hb⟩)
 .rw[hok]at h1;cases h1
 exact⟨v,rfl,ho,Below.fr hb⟩
theorem Jp{a:Option Addr}{zs:List Int}{c:Nat}(h:W.ownsRow base 3 1 (.slice a zs.length c) zs.length (bV zs)):Kp.Kn W a zs c:=by
 rcases Nat.eq_zero_or_pos zs.length with h0|h0
 .exact⟨by rw[h0];exact dC _,λh1=>by omega⟩
 obtain⟨g,rfl,hcap,hc⟩:=bR h h0;refine⟨hcap,λ_=>⟨g,0,rfl,λi hi=>?_⟩⟩;rw[eV,hc i (by omega)];simp[bV,Kp.Pl.tm,hi]
end
theorem zA(l:List Int)(k:Nat)(h:k<l.length):bV (l.take (k+1))=bV (l.take k)++[.i l[k]]:=by unfold bV;rw[ew h,fj];rfl
theorem E9{r:ak}{gs:List Int}{k:Nat}(hg:r.sh.map aS.au=gs)(hk:r.sh.length=k)(nd:(r.sh.map aS.au).Nodup)(j:Nat)(hj:j<k):Kp.Pl.tm gs j=aI r↔j=k-1:=by
 subst hg;subst hk;have e1:∀i(hi:i<r.sh.length),Kp.Pl.tm (r.sh.map aS.au) i=r.sh[i].au:=λi hi=>by simp[Kp.Pl.tm,hi]
 have e2:aI r=r.sh[r.sh.length-1].au:=by unfold aI;rw[kO,dp (by omega)]
 rw[e1 j hj,e2];refine⟨λe=>?_,λe=>by simp only[e]⟩;have h1:(r.sh.map aS.au)[j]'(by simpa using hj)=(r.sh.map aS.au)[r.sh.length-1]'(by simp;omega):=by simpa using e
 exact(List.getElem_inj nd).1 h1
def Lt2(w wr:World)(ts gs:List Int)(k:Nat)(vt vg:Value):Prop:=Fr [] w wr∧wr.ownsRow w.heap.size 3 1 vt k (bV (ts.take k))∧wr.ownsRow w.heap.size 3 1 vg k (bV (gs.take k))∧∀x,vt.ownBlock=some x->vg.ownBlock≠some x
theorem zB{w w':World}{base:Nat}{e:TypeId}{size n:Nat}{v v':Value}{xs:List Value}(h:w.ownsRow base e size v n xs)(hg:w.grownBy w' v'.ownBlock)(hn:∀x,v'.ownBlock=some x->v.ownBlock≠some x):w'.ownsRow base e size v n xs:=
 aj h (λk hk=>hg.block k (h.lt k hk).2 (λe=>hn k e.symm hk))
theorem Ii(O:gq)(hO:bE O)(B b RB n0:Nat)(last now:Int)(ra:Option Addr)(rs:List (Int×Int))(rc:Nat)(w:World)(F:List Nat)(r:ak)(h:iw B w b F r n0)(Ua:Rw F w RB ra rs rc)(hrs:Kp.oO rs=true)(hlast:0≤last∧last≤1000)(oW:0≤now∧now≤1073741824)(hn0:n0+60≤1000000000):
 Rc 91 #[.p b,.i now,.i last,.slice ra rs.length rc] w (.tuple #[]) λw'=>∃F',iw B w' b F' (fq O now last rs r) (n0+24)∧Gw F F' w w':=by
 obtain⟨i0,hi,hz0,hz1,hz2⟩:=info_parts info3;obtain⟨ts,hts⟩:=eX (r.sh.map aS.time);obtain⟨gs,hgs⟩:=eX (r.sh.map aS.au);obtain⟨n,hn⟩:=eX r.sh.length;have hl:n≤12:=by rw[<-hn];exact h.2.len.1
 have HA:=Hj4 h Ua hO hrs;have HN:Hid (r.sh.length=n∧ts.length=n∧gs.length=n∧r.sh.map aS.time=ts∧r.sh.map aS.au=gs):=⟨hn,by rw[<-hts,eI,hn],by rw[<-hgs,eI,hn],hts,hgs⟩;obtain⟨ao,cap,Jq,hlb,hsh⟩:=h.yS;have TS:Hid ((∀W,Fr [] w W->W.cell? (Ad b 36)=some (.slice ao n cap))∧(0<n->∃gg,ao=some (Ad gg 0)∧n≤cap∧∀W,Fr [] w W->∀k(hk:k<r.sh.length),W.cell? (Ad gg (k*36))=some (.i r.sh[k].au)∧W.cell? (Ad gg (k*36+1))=some (.i r.sh[k].time))):=by rw[<-hn];refine⟨λW hW=>(du (hW.block b hlb (by simp))).trans Jq,λh0=>?_⟩;obtain⟨gg,e,hcap,hcc⟩:=hsh h0;exact⟨gg,e,hcap,λW hW k hk=>⟨(du (hW.block gg (dm _ _ (hcc k hk).1) (by simp))).trans (hcc k hk).1,(du (hW.block gg (dm _ _ (hcc k hk).1) (by simp))).trans (hcc k hk).2⟩⟩
 rw[hn]at Jq;clear h Ua hrs hO hts hgs hn hsh hlb;go_enter Tryz.func91,Tryz.ntmps91;go_wp2;go_loopw [8,9,10] (λvt vg i wr=>∃k:Nat,k≤n∧i=.i k∧Hid (Lt2 w wr ts gs k vt vg)) (λ_ _ i _=>n-(intOf i).toNat)
 case atStart=>exact⟨0,dC _,rfl,fR,eA _ _ _ _,eA _ _ _ _,λx hx=>by cases hx⟩
 obtain⟨k,hk,rfl,HK⟩:=hrel;obtain⟨W3,hW3⟩:=eY wr;subst hW3;clear Jq;have Jq:=TS.o.1 W3 HK.o.1;obtain⟨ta,tc,oI⟩:=ah HK.o.2.1;subst oI;obtain⟨ga,gc,hgv⟩:=ah HK.o.2.2.1;subst hgv;by_cases hlt:k<n
 .have hltz:(k:Int)<(n:Int):=by omega
  have hkr:k<r.sh.length:=by rw[HN.o.1];exact hlt
  obtain⟨gg,hgg,hcap,hcc⟩:=TS.o.2 (by omega);subst hgg;have d1:=(hcc W3 HK.o.1 k hkr).2;have HX:Hid (bV (ts.take (k+1))=bV (ts.take k)++[.i r.sh[k].time]∧bV (gs.take (k+1))=bV (gs.take k)++[.i r.sh[k].au]):=by
   have h1:=zA ts k (by rw[HN.o.2.1];exact hlt);have h2:=zA gs k (by rw[HN.o.2.2.1];exact hlt);have e1:ts[k]'(by rw[HN.o.2.1];exact hlt)=r.sh[k].time:=by simp only[<-HN.o.2.2.2.1,List.getElem_map]
   have e2:gs[k]'(by rw[HN.o.2.2.1];exact hlt)=r.sh[k].au:=by simp only[<-HN.o.2.2.2.2,List.getElem_map]
   rw[e1]at h1;rw[e2]at h2;exact⟨h1,h2⟩
  have HC:=Hd λW hW=>(hcc W hW k hkr).1;obtain⟨x,hx⟩:=eX r.sh[k];rw[hx]at d1 HX HC;have hsz:w.heap.size≤W3.heap.size:=HK.o.1.size;clear hcc hx hkr;go_wp2_with (first
   |(at_builtin;refine wpList_append_lies _ rfl _ _ 30 rfl w.heap.size 3 i0 _ 1 8 Tryz.underlying30 hi hz0 hz1 hz2 rfl (by omega) (.slice ga k gc) k (bV (gs.take k)) rfl (U1.o.2.2.1.alloc _) (Ad w9.heap.size 0) 1 1 [.i x.au] rfl (by simp) (World.news_of_block (cs:=#[.i x.au]) (t:=3) (fr:=(0,0)) (di w9 _)) (by simp[Value.oneCell']) (by omega) (by unfold maxLen;omega) (by omega) (by have:=U1.o.2.2.2.2;simp;omega) _ rfl ?_;intro g8 c8 w8 pU kV Nl U2;have H8:Hid (Lt2 w w8 ts gs (k+1) (.slice (some (Ad g9 0)) (k+1) c9) (.slice (some (Ad g8 0)) (k+1) c8)):=(by
      obtain⟨f9,o9,og,ap,sz⟩:=U1.o;have og':=og.alloc (.cells #[.i x.au] 3);have o9':=o9.alloc (.cells #[.i x.au] 3);refine⟨(f9.alloc _).grown kV (λy hy=>Or.inr (og.lt y hy).1),zB o9' kV (λy hy e=>ap y e hy),by rw[HX.o.2];exact pU,λy hy e=>?_⟩;have e1:g9=y:=by simpa[Value.ownBlock]using hy
      have e2:g8=y:=by simpa[Value.ownBlock]using e
      rcases Nl with h1|h1
      .exact ap y hy (by rw[<-e2];exact h1)
      have h2:=(o9.lt y hy).2;simp at h1;omega)
     clear pU kV Nl U2)
   |(at_builtin;refine wpList_append_lies _ rfl _ _ 30 rfl w.heap.size 3 i0 _ 1 8 Tryz.underlying30 hi hz0 hz1 hz2 rfl (by omega) (.slice ta k tc) k (bV (ts.take k)) rfl (HK.o.2.1.alloc _) (Ad W3.heap.size 0) 1 1 [.i x.time] rfl (by simp) (World.news_of_block (cs:=#[.i x.time]) (t:=3) (fr:=(0,0)) (di W3 _)) (by simp[Value.oneCell']) (by omega) (by unfold maxLen;omega) (by omega) (by simp;omega) _ rfl ?_;intro g9 c9 w9 aH aJ vP D7;have U1:Hid (Fr [] w w9∧w9.ownsRow w.heap.size 3 1 (.slice (some (Ad g9 0)) (k+1) c9) (k+1) (bV (ts.take (k+1)))∧w9.ownsRow w.heap.size 3 1 (.slice ga k gc) k (bV (gs.take k))∧(∀y,(Value.slice (some (Ad g9 0)) (k+1) c9).ownBlock=some y->(Value.slice ga k gc).ownBlock≠some y)∧w.heap.size≤w9.heap.size):=(by
      obtain⟨f3,o3,og3,ap3⟩:=HK.o;have fr9:Fr [] w w9:=(f3.alloc _).grown aJ (λy hy=>Or.inr (o3.lt y hy).1);refine⟨fr9,by rw[HX.o.1];exact aH,zB (og3.alloc _) aJ (λy hy e=>ap3 y hy e),λy hy e=>?_,fr9.size⟩;have e1:g9=y:=by simpa[Value.ownBlock]using hy
      rcases vP with h1|h1
      .exact ap3 y (by rw[<-e1];exact h1) e
      have h2:=(og3.lt y e).2;simp at h1;omega)
     have MG:=TS.o.1 w9 U1.o.1;have d9:=HC.o w9 U1.o.1;clear aH aJ vP D7))
  go_roundw
  case rel=>exact⟨k+1,by omega,by go_num,H8⟩
  simp[intOf];omega
 have hkn:k=n:=by omega
 subst hkn;have hltz:¬(k:Int)<(k:Int):=by omega
 have HT:Hid (Fr [] w W3∧W3.ownsRow w.heap.size 3 1 (.slice ta k tc) k (bV ts)∧W3.ownsRow w.heap.size 3 1 (.slice ga k gc) k (bV gs)):=by obtain⟨h1,h2,h3,_⟩:=HK.o;rw[eL (by rw[HN.o.2.1];exact eh _)]at h2;rw[eL (by rw[HN.o.2.2.1];exact eh _)]at h3;exact⟨h1,h2,h3⟩
 have Ub:Hid (∀W,Fr [] W3 W->Cl 139 #[.i now,.slice ta k tc,.i last,.slice ra rs.length rc] W λe w'=>∃v,e=.returned (.tuple #[v,.i 0])∧w'.ownsRow W.heap.size 4 1 v k (Kp.kr now ts last rs)∧Fr [] W w'):=λW hW=>by have h2:=aj (w':=W) HT.o.2.1 (λj hj=>hW.block j (HT.o.2.1.lt j hj).2 (by simp));have h9:=L9 (F:=F) (RB:=RB) (ra:=ra) (rs:=rs) (rc:=rc) now last ta tc ts (by rw[HN.o.2.1];exact hl) (Jp (base:=w.heap.size) (by rw[HN.o.2.1];exact h2)) (HA.o.2.1.same (HT.o.1.trans hW (by simp))) HA.o.2.2.2 oW (λz hz=>by rw[<-HN.o.2.2.2.1]at hz;obtain⟨x,hx,rfl⟩:=fm.1 hz;exact(HA.o.1.2.len.2.2.2 x hx).2) hlast;rw[HN.o.2.1]at h9;exact h9
 clear HK;go_wp2_with (first
  |(go_at_call 139;refine(Ub.o _ (by first|exact Fr.refl [] W3|exact(Fr.refl [] W3).drew)).mono ?_;rintro e w4 ⟨v4,rfl,o4,f4⟩;have H4:Hid (Fr [] w w4∧w4.ownsRow W3.heap.size 4 1 v4 k (Kp.kr now ts last rs)∧w4.ownsRow w.heap.size 3 1 (.slice ga k gc) k (bV gs)):=(by have f3:Fr [] W3 w4:=(by first|exact f4|exact((Fr.refl [] W3).drew).trans f4 (by simp));exact⟨HT.o.1.trans f3 (by simp),by first|exact o4|exact o4,aj HT.o.2.2 (λj hj=>f3.block j (HT.o.2.2.lt j hj).2 (by simp))⟩);obtain⟨la,lc,hlv⟩:=ah o4;subst hlv;clear o4 f4)
  |(go_at_call 92;refine(o8 (HA.o.1.same H4.o.1)).mono ?_;rintro e w5 ⟨rfl,f5⟩;have H5:=Hj3 (H4.o.1.trans f5 (by simp)) (aj H4.o.2.1 (λj hj=>f5.block j (H4.o.2.1.lt j hj).2 (by simp))) (aj H4.o.2.2 (λj hj=>f5.block j (H4.o.2.2.lt j hj).2 (by simp)));clear f5))
 obtain⟨nw,hnw⟩:=eX (aI r);obtain⟨kp,hkp⟩:=eX (Kp.Pl.keepR now ts last rs);obtain⟨m,hm⟩:=eX (k-1);have HM:Hid (k-1=m∧(∀j(hj:j<k),(Kp.Pl.tm gs j=nw↔j=m))∧(∀j,j<k->In64 (Kp.Pl.tm gs j))∧Kp.Pl.keepR now ts last rs=kp∧Kp.kr now ts last rs=(List.range k).map λi=>.bool (kp i)):=by
  refine⟨hm,λj hj=>?_,λj hj=>?_,hkp,by rw[<-hkp,<-HN.o.2.1];rfl⟩
  .rw[<-hnw,<-hm];exact E9 HN.o.2.2.2.2 HN.o.1 (HA.o.1.2.len.2.2.1) j hj
  have hjr:j<r.sh.length:=by rw[HN.o.1];exact hj
  have e:Kp.Pl.tm gs j=r.sh[j].au:=by rw[<-HN.o.2.2.2.2];simp[Kp.Pl.tm,hjr]
  have:=(HA.o.1.2.len.2.2.2 _ (eE hjr)).1;rw[e];exact⟨by omega,by omega⟩
 have H6:Hid (iw B w5 b F r n0∧Gw F F w w5∧Ow F w5 W3.heap.size 4 1 (.slice la k lc) k ((List.range k).map λi=>.bool (kp i))∧Ow F w5 w.heap.size 3 1 (.slice ga k gc) k (bV gs)):=by have hsz:=HT.o.1.size;refine⟨HA.o.1.same H5.o.1,Gw.of H5.o.1,⟨by rw[<-HM.o.2.2.2.2];exact H5.o.2.1,λy hy=>HA.o.1.new (by have:=(H5.o.2.1.lt y hy).1;omega)⟩,H5.o.2.2,λy hy=>HA.o.1.new (H5.o.2.2.lt y hy).1⟩
 rw[hnw];clear H4 H5 Ub hnw hkp hm Jq hltz;go_loopw [14] (λi wr=>∃j:Nat,j≤k∧i=.i j∧Hid (∃F1,iw B wr b F1 (iY O gs kp r (min j m)) (n0+min j m)∧Gw F F1 w wr∧Ow F1 wr W3.heap.size 4 1 (.slice la k lc) k ((List.range k).map λi=>.bool (kp i))∧Ow F1 wr w.heap.size 3 1 (.slice ga k gc) k (bV gs))) (λi _=>k-(intOf i).toNat)
 case atStart=>exact⟨0,dC _,rfl,F,by rw[Nat.zero_min];exact H6.o.1,H6.o.2⟩
 obtain⟨j,hj,rfl,HK⟩:=hrel;obtain⟨W7,oZ⟩:=eY wr;subst oZ;obtain⟨F1,hK⟩:=HK.o;have fP:=Hd hK;clear HK hK H6;by_cases hlt:j<k
 .have hltz:(j:Int)<(k:Int):=by omega
  obtain⟨lg,qo,aac,hlc⟩:=bR fP.o.2.2.1.1 (by omega);subst qo;obtain⟨Jr,Qb,U3,hgc⟩:=bR fP.o.2.2.2.1 (by omega);subst Qb;have d1:W7.cell? (Ad lg j)=some (.bool (kp j)):=by rw[hlc j (by omega)];simp[hlt]
  have d2:W7.cell? (Ad Jr j)=some (.i (Kp.Pl.tm gs j)):=by
   rw[hgc j (by omega)];have:j<gs.length:=by rw[HN.o.2.2.1];exact hlt
   simp[bV,Kp.Pl.tm,this]
  obtain⟨z,hz⟩:=eX (Kp.Pl.tm gs j);have HZ:Hid ((z=nw↔j=m)∧In64 z∧Kp.Pl.tm gs j=z):=by rw[<-hz];exact⟨HM.o.2.1 j hlt,HM.o.2.2.1 j hlt,rfl⟩
  rw[hz]at d2;clear hlc hgc hz;cases hb:kp j with
  |true=>
   rw[hb]at d1;have HS:Hid (∃F1,iw B W7 b F1 (iY O gs kp r (min (j+1) m)) (n0+min (j+1) m)∧Gw F F1 w W7∧Ow F1 W7 W3.heap.size 4 1 (.slice (some (Ad lg 0)) k lc) k ((List.range k).map λi=>.bool (kp i))∧Ow F1 W7 w.heap.size 3 1 (.slice (some (Ad Jr 0)) k gc) k (bV gs)):=by
    refine⟨F1,?_,fP.o.2⟩;rcases Nat.lt_or_ge j m with h1|h1
    .rw[show min (j+1) m=j+1 by omega,show iY O gs kp r (j+1)=iY O gs kp r j from by show(if kp j then _ else _)=_;rw[hb];rfl];have h2:=fP.o.1;rw[show min j m=j by omega]at h2;exact h2.le (by omega)
    have h2:=fP.o.1;rw[show min j m=m by omega]at h2;rw[show min (j+1) m=m by omega];exact h2
   go_wp2;go_roundw
   case rel=>exact⟨j+1,by omega,by go_num,HS⟩
   simp[intOf];omega
  |false=>
   rw[hb]at d1;rcases Nat.lt_or_ge j m with h1|h1
   .have hne:(z != nw)=true:=by have:=HZ.o.1;simp only[bne_iff_ne,ne_eq];omega
    have MN:Hid (∀W,Fr [] W7 W->W.heap[W7.heap.size]?=some (.cells #[.i z] 3 (0,0))->Cl 121 #[.p b,.slice (some (Ad W7.heap.size 0)) 1 1] W λe w'=>∃en:Int,e=.returned (.i en)∧∃F2,iw B w' b F2 (iY O gs kp r (min (j+1) m)) (n0+min (j+1) m)∧Gw F F2 w w'∧Ow F2 w' W3.heap.size 4 1 (.slice (some (Ad lg 0)) k lc) k ((List.range k).map λi=>.bool (kp i))∧Ow F2 w' w.heap.size 3 1 (.slice (some (Ad Jr 0)) k gc) k (bV gs)):=λW hW hg=>by have h2:=fP.o.1;rw[show min j m=j by omega]at h2;refine(MP HA.o.2.2.1 HZ.o.2.1 (h2.same hW) (by omega) ⟨fP.o.1.new (eh _),hg⟩).mono ?_;rintro e w' ⟨he,F2,s2,g2⟩;refine⟨_,he,F2,?_,(fP.o.2.1.trans (Gw.of hW)).trans g2,(fP.o.2.2.1.same hW).step g2,(fP.o.2.2.2.same hW).step g2⟩;rw[show min (j+1) m=j+1 by omega,show iY O gs kp r (j+1)=(O.dst (iY O gs kp r j) z).2 from by show(if kp j then _ else _)=_;rw[hb,HZ.o.2.2];rfl];exact s2
    go_wp2_with (go_at_call 121;refine(MN.o _ (by first|exact(Fr.refl [] W7).alloc _|exact((Fr.refl [] W7).drew).alloc _|exact((Fr.refl [] W7).alloc _).drew) (by first|exact di W7 _)).mono ?_;rintro e w8 ⟨en,rfl,k8⟩;have H8:=Hd k8;clear k8);go_roundw
    case rel=>exact⟨j+1,by omega,by go_num,H8⟩
    simp[intOf];omega
   have hjm:j=m:=by have:=HM.o.1;omega
   have hzn:=HZ.o.1.2 hjm;subst hzn;subst hjm;have hne:(z != z)=false:=by simp
   have hne2:(z==z)=true:=by simp
   have HS:Hid (∃F1,iw B W7 b F1 (iY O gs kp r (min (j+1) j)) (n0+min (j+1) j)∧Gw F F1 w W7∧Ow F1 W7 W3.heap.size 4 1 (.slice (some (Ad lg 0)) k lc) k ((List.range k).map λi=>.bool (kp i))∧Ow F1 W7 w.heap.size 3 1 (.slice (some (Ad Jr 0)) k gc) k (bV gs)):=by have h2:=fP.o.1;rw[Nat.min_self]at h2;rw[show min (j+1) j=j by omega];exact⟨F1,h2,fP.o.2⟩
   go_wp2;go_roundw
   case rel=>exact⟨j+1,by omega,by go_num,HS⟩
   simp[intOf];omega
 have hltz:¬(j:Int)<(k:Int):=by omega
 obtain⟨r1,hr1⟩:=eX (iY O gs kp r m);have Nn:Hid (iw B W7 b F1 r1 (n0+m)∧Gw F F1 w W7∧Ow F1 W7 w.heap.size 3 1 (.slice ga k gc) k (bV gs)):=by have h2:=fP.o.1;rw[show min j m=m by have:=HM.o.1;omega,hr1]at h2;exact⟨h2,fP.o.2.1,fP.o.2.2.2⟩
 have CG:Hid (fq O now last rs r=if r1.sh.length=12 then(cO O gs r1 m).2 else r1):=by show fq O now last rs r=_;unfold fq;simp only[HN.o.1,HM.o.1,HN.o.2.2.2.1,HN.o.2.2.2.2,HM.o.2.2.2.1,hr1]
 obtain⟨ao1,bX,hc1,_,_⟩:=Nn.o.1.yS;clear fP hr1;obtain⟨n1,hn1⟩:=eX r1.sh.length;have CJ:=Hd hn1;rw[hn1]at hc1 CG;clear hn1;by_cases h12:n1=12
 .subst h12;rw[if_pos rfl]at CG;go_wp2;clear hc1;go_loopw [15,16] (λvf i wr=>∃j:Nat,j≤k∧i=.i j∧vf=.bool (cO O gs r1 (min j m)).1∧Hid (∃F1,iw B wr b F1 (cO O gs r1 (min j m)).2 (n0+m+min j m)∧Gw F F1 w wr∧Ow F1 wr w.heap.size 3 1 (.slice ga k gc) k (bV gs))) (λ_ i _=>k-(intOf i).toNat)
  case atStart=>exact⟨0,dC _,rfl,by rw[Nat.zero_min];rfl,F1,by rw[Nat.zero_min];exact Nn.o.1,Nn.o.2⟩
  clear Nn;obtain⟨j,hj,rfl,hvf,HK⟩:=hrel;obtain⟨W8,UR⟩:=eY wr;subst UR;obtain⟨F2,hK⟩:=HK.o;obtain⟨r2,hr2⟩:=eX (cO O gs r1 (min j m)).2;obtain⟨fu,hfu⟩:=eX (cO O gs r1 (min j m)).1;rw[hfu]at hvf;subst hvf;rw[hr2]at hK;have fP:=Hd hK;have HX:=Hj2 hfu hr2;clear HK hK hfu hr2;have fin:∀W F',iw B W b F' r2 (n0+m+min j m)->Gw F F' w W->(fu=false∨¬j<k)->∃F',iw B W b F' (fq O now last rs r) (n0+24)∧Gw F F' w W:=λW F' h1 h2 h3=>by
   refine⟨F',?_,h2⟩;rw[CG.o];have e:(cO O gs r1 m).2=r2:=by
    rcases h3 with h3|h3
    .have h4:=uJ (O:=O) (gs:=gs) (r:=r1) (k:=min j m) (by rw[HX.o.1];exact h3) m (by omega);rw[h4];exact HX.o.2
    have h4:=HX.o.2;rw[show min j m=m by have:=HM.o.1;omega]at h4;exact h4
   rw[e];exact h1.le (by have:=HM.o.1;omega)
  have HFn:=Hd fin;clear fin;by_cases hlt:j<k
  .have hltz:(j:Int)<(k:Int):=by omega
   cases fu with
   |false=>
    go_wp2;go_end0;exact⟨rfl,HFn.o _ F2 fP.o.1 fP.o.2.1 (by first|exact Or.inl rfl|exact Or.inl trivial)⟩
   |true=>
    obtain⟨Jr,Qb,U3,hgc⟩:=bR fP.o.2.2.1 (by omega);subst Qb;have d2:W8.cell? (Ad Jr j)=some (.i (Kp.Pl.tm gs j)):=by
     rw[hgc j (by omega)];have:j<gs.length:=by rw[HN.o.2.2.1];exact hlt
     simp[bV,Kp.Pl.tm,this]
    obtain⟨z,hz⟩:=eX (Kp.Pl.tm gs j);have HZ:Hid ((z=nw↔j=m)∧In64 z∧Kp.Pl.tm gs j=z):=by rw[<-hz];exact⟨HM.o.2.1 j hlt,HM.o.2.2.1 j hlt,rfl⟩
    rw[hz]at d2;have JV:Hid (∀W F',iw B W b F' r2 (n0+m+min j m)->Gw F F' w W->Ow F' W w.heap.size 3 1 (.slice (some (Ad Jr 0)) k gc) k (bV gs)->(j=m∨∀x∈r2.sh,x.au≠z)->(cO O gs r1 (min (j+1) m)).1=true∧∃F1,iw B W b F1 (cO O gs r1 (min (j+1) m)).2 (n0+m+min (j+1) m)∧Gw F F1 w W∧Ow F1 W w.heap.size 3 1 (.slice (some (Ad Jr 0)) k gc) k (bV gs)):=λW F' h1 h2 h3 h4=>by
     by_cases hjm:j=m
     .rw[show min (j+1) m=min j m by omega,HX.o.1,HX.o.2];exact⟨rfl,F',h1,h2,h3⟩
     have hjl:j<m:=by have:=HM.o.1;omega
     have h5:=h4.resolve_left hjm;obtain⟨_,h6,h7,_⟩:=HA.o.2.2.1.dst r2 z (h1.2.le (by have:=HM.o.1;omega)) HZ.o.2.1;have h8:=h7 h5;have h9:=h6 h8;have hx:=HX.o;rw[show min j m=j by omega]at hx;have e:cO O gs r1 (min (j+1) m)=(true,r2):=by rw[show min (j+1) m=j+1 by omega];show(if(cO O gs r1 j).1 then _ else _)=_;rw[hx.1,hx.2,HZ.o.2.2,h9];simp[h8]
     rw[e];exact⟨rfl,F',h1.le (by omega),h2,h3⟩
    have U4:=Hd (L8 fP.o.1 z);clear hgc hz;rcases jv (λx:aS=>x.au==z) r2.sh with hf|⟨p,hp,hf,hpg⟩
    .have JJ:Hid (∀x∈r2.sh,x.au≠z):=λx hx e=>by obtain⟨q,_,e9,_⟩:=dx (p:=λx:aS=>x.au==z) r2.sh 0 ⟨x,hx,by simpa using e⟩;rw[hf]at e9;omega
     rw[hf]at U4;clear hf;go_wp2_with (go_at_call 56;refine U4.o.mono ?_;rintro e w9 ⟨rfl,h9⟩;subst h9);have HS:=JV.o w9 F2 fP.o.1 fP.o.2.1 fP.o.2.2 (Or.inr JJ.o);have Ho:Hid _:=HS;clear HS;go_roundw
     case rel=>exact⟨j+1,by omega,by go_num,by rw[Ho.o.1],Ho.o.2⟩
     simp[intOf];omega
    rw[hf]at U4;have hp0:(0:Int)≤(p:Int):=by omega
    clear hf hpg;by_cases hjm:j=m
    .have hzn:=HZ.o.1.2 hjm;subst hzn;have hne:(z != z)=false:=by simp
     have HJ:Hid (j=m):=hjm;clear hjm;go_wp2_with (go_at_call 56;refine U4.o.mono ?_;rintro e w9 ⟨rfl,h9⟩;subst h9);have HS:=JV.o w9 F2 fP.o.1 fP.o.2.1 fP.o.2.2 (Or.inl HJ.o);have Ho:Hid _:=HS;clear HS;go_roundw
     case rel=>exact⟨j+1,by omega,by go_num,by rw[Ho.o.1],Ho.o.2⟩
     simp[intOf];omega
    have hne:(z != nw)=true:=by have:=HZ.o.1;simp only[bne_iff_ne,ne_eq];omega
    have HJ:Hid (j<m):=by have:=HM.o.1;show j<m;omega
    clear hjm;have MN:Hid (∀W,Fr [] W8 W->W.heap[W8.heap.size]?=some (.cells #[.i z] 3 (0,0))->Cl 121 #[.p b,.slice (some (Ad W8.heap.size 0)) 1 1] W λe w'=>∃en:Int,e=.returned (.i en)∧(en != 0)=(cO O gs r1 (min (j+1) m)).1∧∃F3,iw B w' b F3 (cO O gs r1 (min (j+1) m)).2 (n0+m+min (j+1) m)∧Gw F F3 w w'∧Ow F3 w' w.heap.size 3 1 (.slice (some (Ad Jr 0)) k gc) k (bV gs)):=λW hW hg=>by
     have hj':=HJ.o;have h2:=fP.o.1;have hx:=HX.o;rw[show min j m=j by omega]at h2 hx;refine(MP HA.o.2.2.1 HZ.o.2.1 (h2.same hW) (by have:=HM.o.1;omega) ⟨fP.o.1.new (eh _),hg⟩).mono ?_;rintro e w' ⟨he,F3,s3,g3⟩;have e9:cO O gs r1 (min (j+1) m)=(decide ((O.dst r2 z).1≠0),(O.dst r2 z).2):=by rw[show min (j+1) m=j+1 by omega];show(if(cO O gs r1 j).1 then _ else _)=_;rw[hx.1,hx.2,HZ.o.2.2];rfl
     rw[e9,show min (j+1) m=j+1 by omega];exact⟨_,he,by cases hd:decide ((O.dst r2 z).1≠0)<;>simp at hd⊢<;>exact hd,F3,s3.le (by omega),(fP.o.2.1.trans (Gw.of hW)).trans g3,(fP.o.2.2.same hW).step g3⟩
    go_wp2_with (first
     |(go_at_call 121;refine(MN.o _ (by first|exact(Fr.refl [] _).alloc _|exact((Fr.refl [] _).drew).alloc _) (by first|exact di _ _)).mono ?_;rintro e w9 ⟨en,rfl,hen,k9⟩;have H9:=Hj2 hen k9;clear k9 hen)
     |(go_at_call 56;refine U4.o.mono ?_;rintro e w9 ⟨rfl,h9⟩;subst h9))
    go_roundw
    case rel=>exact⟨j+1,by omega,by go_num,by rw[<-H9.o.1],H9.o.2⟩
    simp[intOf];omega
  have hltz:¬(j:Int)<(k:Int):=by omega
  go_wp2;go_end0;exact⟨rfl,HFn.o _ F2 fP.o.1 fP.o.2.1 (Or.inr hlt)⟩
 have h12z:((n1:Int)==12)=false:=by simp;omega
 rw[if_neg h12]at CG;go_wp2;go_loopw [15,16] (λvf i wr=>vf=.bool false∧i=.i 0∧wr=W7) (λ_ _ _=>0)
 case atStart=>exact⟨rfl,rfl,rfl⟩
 obtain⟨rfl,rfl,hwr⟩:=hrel;subst hwr;by_cases hk0:(0:Int)<(k:Int)
 .go_wp2;go_end0;exact⟨rfl,F1,by rw[CG.o];exact Nn.o.1.le (by have:=HM.o.1;omega),Nn.o.2.1⟩
 go_wp2;go_end0;exact⟨rfl,F1,by rw[CG.o];exact Nn.o.1.le (by have:=HM.o.1;omega),Nn.o.2.1⟩
structure Pr where
 known:Int
 gave:Int
 sent:Int
 wt:Bool
 dt:Bool
 num:Int
 since:Int
 wait:Int
 tries:Int
def Pr.aw(p:Pr):Int:=if p.wt then(if p.dt then 68 else 65)else 0
def Pr.pc(p:Pr):List Value:=[.i p.known,.i p.sent,.i p.gave,.i p.num,.u p.aw,.i (p.since+p.wait),.i p.tries]
def Pr.rc(p:Pr):List Value:=[.i p.known,.i p.gave,.i p.sent,.bool p.wt,.bool p.dt,.i p.num,.i p.since,.i p.wait,.i p.tries]
structure Sc where
 id:Int
 bl:Int
 np:Int
 every:Int
 wait:Int
 cap:Int
 grid:cC
 last:Int
 rs:List (Int×Int)
 time:Int
 ps:List Pr
 r:ak
def K3(l:List Pr):List Value:=l.flatMap Pr.pc
def OO(l:List Pr):List Value:=l.flatMap Pr.rc
theorem Le(l:List Pr)(i:Nat)(h:i<l.length)(j:Nat)(hj:j<7):(K3 l)[i*7+j]?=l[i].pc[j]?:=mJ (f:=Pr.pc) (k:=7) l (λ_ _=>rfl) i h j hj
theorem Lf(l:List Pr)(i:Nat)(h:i<l.length)(j:Nat)(hj:j<9):(OO l)[i*9+j]?=l[i].rc[j]?:=mJ (f:=Pr.rc) (k:=9) l (λ_ _=>rfl) i h j hj
theorem rW{f:Pr->List Value}{n:Nat}(hf:∀x,(f x).length=n):∀(l:List Pr)(i j:Nat)(v:Value)(p:Pr),j<n->(∀h:i<l.length,f p=(f l[i]).set j v)->i<l.length->(l.flatMap f).set (i*n+j) v=(l.set i p).flatMap f
 |[],i,j,v,p,_,_,h=>by simp at h
 |y::l,0,j,v,p,hj,hp,_=>by have:=hp (by simp);simp only[List.getElem_cons_zero]at this;simp only[gC,List.set_cons_zero,Nat.zero_mul,eV];rw[this,List.set_append_left _ _ (by rw[hf];exact hj)]
 |y::l,i+1,j,v,p,hj,hp,h=>by
  have ih:=rW hf l i j v p hj (λh'=>by have:=hp (by simpa using h');simpa using this) (by simpa using h);simp only[gC,List.set_cons_succ];have e:(i+1)*n+j-n=i*n+j:=by rw[Nat.succ_mul];omega
  rw[fl _ _ (by rw[hf,Nat.succ_mul];omega),hf,e,ih]
def xP(b:Nat)(s:Sc)(ra:Option Addr)(rc pb:Nat):Obj:=.cells #[.p b,.i s.last,.slice ra s.rs.length rc,.i s.every,.i s.wait,.i s.cap,.i s.time,.slice (some (Ad pb 0)) s.ps.length s.ps.length] 100 (0,0)
def xR(b:Nat)(s:Sc)(ra:Option Addr)(rc pb:Nat):Obj:=.cells #[.p b,.i s.id,.i s.bl,.i s.np,.i s.every,.i s.wait,.i s.cap,.t s.grid,.i s.last,.slice ra s.rs.length rc,.i s.time,.slice (some (Ad pb 0)) s.ps.length s.ps.length] 67 (0,0)
structure fG(s:Sc):Prop where
 every:1≤s.every∧s.every≤1000
 wait:1≤s.wait∧s.wait≤s.cap∧s.cap≤1000
 last:1≤s.last∧s.last≤12
 rs:Kp.oO s.rs=true
 time:0≤s.time∧s.time≤1073741824
 ps:1≤s.ps.length∧s.ps.length≤3
 pr:∀p∈s.ps,(0≤p.num∧p.num≤4000000000)∧(0≤p.since∧p.since≤s.time)∧(0≤p.wait∧p.wait≤1000)∧0≤p.tries∧p.tries≤s.time
structure SP(B xb pb b RB:Nat)(ra:Option Addr)(rc:Nat)(w:World)(F:List Nat)(s:Sc)(n:Nat):Prop where
 sk:Sk B w b F s.r n
 blk:Bk F w xb (xP b s ra rc pb)
 pr:Bk F w pb (.cells (K3 s.ps).toArray 120 (0,0))
 ru:Rw F w RB ra s.rs rc
structure SR(B xb pb b RB:Nat)(ra:Option Addr)(rc:Nat)(w:World)(F:List Nat)(s:Sc)(n:Nat):Prop where
 sk:iw B w b F s.r n
 blk:Bk F w xb (xR b s ra rc pb)
 pr:Bk F w pb (.cells (OO s.ps).toArray 122 (0,0))
 ru:Rw F w RB ra s.rs rc
section
variable {B xb pb b RB:Nat}{ra:Option Addr}{rc:Nat}{w w':World}{F F':List Nat}{s:Sc}{n n':Nat}{r':ak}
theorem SP.same(h:SP B xb pb b RB ra rc w F s n)(f:Fr [] w w'):SP B xb pb b RB ra rc w' F s n:=⟨h.sk.same f,h.blk.same f,h.pr.same f,h.ru.same f⟩
theorem SR.same(h:SR B xb pb b RB ra rc w F s n)(f:Fr [] w w'):SR B xb pb b RB ra rc w' F s n:=⟨h.sk.same f,h.blk.same f,h.pr.same f,h.ru.same f⟩
theorem SP.step(h:SP B xb pb b RB ra rc w F s n)(k:Sk B w' b F' r' n')(g:Gw F F' w w'):SP B xb pb b RB ra rc w' F' {s with r:=r'} n':=⟨k,h.blk.step g,h.pr.step g,h.ru.step g⟩
theorem SR.step(h:SR B xb pb b RB ra rc w F s n)(k:iw B w' b F' r' n')(g:Gw F F' w w'):SR B xb pb b RB ra rc w' F' {s with r:=r'} n':=⟨k,h.blk.step g,h.pr.step g,h.ru.step g⟩
theorem SP.ne(h:SP B xb pb b RB ra rc w F s n):xb≠pb:=λe=>by have h1:=h.blk.2;rw[e,h.pr.2]at h1;simp[xP]at h1
theorem SR.ne(h:SR B xb pb b RB ra rc w F s n):xb≠pb:=λe=>by have h1:=h.blk.2;rw[e,h.pr.2]at h1;simp[xR]at h1
theorem SP.aR(h:SP B xb pb b RB ra rc w F s n){i:Nat}(hi:i<s.ps.length){j:Nat}(hj:j<7):w.cell? (Ad pb (i*7+j))=s.ps[i].pc[j]?:=by rw[cell_of h.pr.2,dq];exact Le s.ps i hi j hj
theorem SR.aR(h:SR B xb pb b RB ra rc w F s n){i:Nat}(hi:i<s.ps.length){j:Nat}(hj:j<9):w.cell? (Ad pb (i*9+j))=s.ps[i].rc[j]?:=by rw[cell_of h.pr.2,dq];exact Lf s.ps i hi j hj
theorem uK(h:SP B xb pb b RB ra rc w F s n)(i:Int):Rc 49 #[.p xb,.i i] w (.bool (decide (0≤i)&&decide (i<s.ps.length))) λw'=>w'=w:=by
 have c7:cD w xb 7 (.slice (some (Ad pb 0)) s.ps.length s.ps.length):=ce h.blk.2 rfl;obtain⟨m,hm⟩:=eX s.ps.length;rw[hm]at c7⊢;clear h hm;by_cases h0:(0:Int)≤i
 .by_cases h1:i<(m:Int)
  .go_enter Tryz.func49,Tryz.ntmps49;go_wp2;go_ret;exact⟨by simp[h0,h1],rfl⟩
  go_enter Tryz.func49,Tryz.ntmps49;go_wp2;go_ret;exact⟨by simp[h1],rfl⟩
 go_enter Tryz.func49,Tryz.ntmps49;go_wp2;go_ret;exact⟨by simp;omega,rfl⟩
end
section
variable {B xb pb b RB:Nat}{ra:Option Addr}{rc:Nat}{w w':World}{F F':List Nat}{s:Sc}{n n':Nat}{r':ak}
theorem Sk.mG(h:Sk B w b F r' n){x:Nat}(f:Fr [x] w w')(hx:x∉F):Sk B w' b F r' n:=⟨h.1.fr f (λk hk hm=>by simp at hm;subst hm;exact hx hk),h.2⟩
theorem iw.mG(h:iw B w b F r' n){x:Nat}(f:Fr [x] w w')(hx:x∉F):iw B w' b F r' n:=⟨h.1.fr f (λk hk hm=>by simp at hm;subst hm;exact hx hk),h.2⟩
theorem Bk.mG{y x:Nat}{o:Obj}(h:Bk F w y o)(f:Fr [x] w w')(hx:y≠x):Bk F w' y o:=⟨h.1,(f.block y h.lt (by simpa using hx)).trans h.2⟩
theorem Rw.mG{rs:List (Int×Int)}(h:Rw F w RB ra rs rc){x:Nat}{c:Array Value}{t:TypeId}(hx:w.heap[x]?=some (.cells c t (0,0)))(ht:t≠172)(f:Fr [x] w w'):Rw F w' RB ra rs rc:=h.fr f (λk hk hm=>by obtain⟨_,cur,h4⟩:=av h.1 hk;simp at hm;rw[hm,hx]at h4;simp at h4;exact ht h4.2)
theorem SP.set(h:SP B xb pb b RB ra rc w F s n){i:Nat}(hi:i<s.ps.length){j:Nat}(hj:j<7){v:Value}{p:Pr}(hp:p.pc=(s.ps[i].pc).set j v):SP B xb pb b RB ra rc (w.setCell (Ad pb (i*7+j)) v) F {s with ps:=s.ps.set i p} n:=by
 have f:Fr [pb] w (w.setCell (Ad pb (i*7+j)) v):=fR.setCell _ (Or.inl (by simp));refine⟨h.sk.mG f h.pr.1,?_,⟨h.pr.1,?_⟩,h.ru.mG h.pr.2 (by decide) f⟩
 .have h1:=h.blk.mG f h.ne;unfold xP at h1⊢;rw[eR];exact h1
 rw[dy _ _ _ _ _ _ h.pr.2];have e:=rW (f:=Pr.pc) (n:=7) (λ_=>rfl) s.ps i j v p hj (λ_=>hp) hi;unfold K3;rw[<-e];simp
theorem SR.set(h:SR B xb pb b RB ra rc w F s n){i:Nat}(hi:i<s.ps.length){j:Nat}(hj:j<9){v:Value}{p:Pr}(hp:p.rc=(s.ps[i].rc).set j v):SR B xb pb b RB ra rc (w.setCell (Ad pb (i*9+j)) v) F {s with ps:=s.ps.set i p} n:=by
 have f:Fr [pb] w (w.setCell (Ad pb (i*9+j)) v):=fR.setCell _ (Or.inl (by simp));refine⟨h.sk.mG f h.pr.1,?_,⟨h.pr.1,?_⟩,h.ru.mG h.pr.2 (by decide) f⟩
 .have h1:=h.blk.mG f h.ne;unfold xR at h1⊢;rw[eR];exact h1
 rw[dy _ _ _ _ _ _ h.pr.2];have e:=rW (f:=Pr.rc) (n:=9) (λ_=>rfl) s.ps i j v p hj (λ_=>hp) hi;unfold OO;rw[<-e];simp
theorem SP.wE(h:SP B xb pb b RB ra rc w F s n)(t:Int):SP B xb pb b RB ra rc (w.setCell (Ad xb 6) (.i t)) F {s with time:=t} n:=by have f:Fr [xb] w (w.setCell (Ad xb 6) (.i t)):=fR.setCell _ (Or.inl (by simp));refine⟨h.sk.mG f h.blk.1,⟨h.blk.1,?_⟩,h.pr.mG f (Ne.symm h.ne),h.ru.mG h.blk.2 (by decide) f⟩;have h1:=h.blk.2;unfold xP at h1⊢;rw[dy _ _ _ _ _ _ h1];rfl
theorem SR.wE(h:SR B xb pb b RB ra rc w F s n)(t:Int):SR B xb pb b RB ra rc (w.setCell (Ad xb 10) (.i t)) F {s with time:=t} n:=by have f:Fr [xb] w (w.setCell (Ad xb 10) (.i t)):=fR.setCell _ (Or.inl (by simp));refine⟨h.sk.mG f h.blk.1,⟨h.blk.1,?_⟩,h.pr.mG f (Ne.symm h.ne),h.ru.mG h.blk.2 (by decide) f⟩;have h1:=h.blk.2;unfold xR at h1⊢;rw[dy _ _ _ _ _ _ h1];rfl
def fA(s:Sc)(i:Int):Int×Int:=if h:0≤i∧i<s.ps.length then((s.ps[i.toNat]'(by omega)).known,0)else(0,1)
theorem Lh(h:SP B xb pb b RB ra rc w F s n)(i:Int):Rc 19 #[.p xb,.i i] w (fI (fA s i)) λw'=>Fr [] w w':=by
 have HP:=Hd (uK h i);have c7:cD w xb 7 (.slice (some (Ad pb 0)) s.ps.length s.ps.length):=ce h.blk.2 rfl;by_cases hi:0≤i∧i<s.ps.length
 .obtain⟨k,rfl⟩:∃k:Nat,i=(k:Int):=⟨i.toNat,by omega⟩;have hk:k<s.ps.length:=by omega
  have HK:Hid (fA s (k:Int)=(s.ps[k].known,0)):=by show fA s (k:Int)=_;unfold fA;rw[dif_pos hi];simp
  have d0:w.cell? (Ad pb (k*7))=some (.i s.ps[k].known):=h.aR hk (j:=0) (by omega);rw[show(decide ((0:Int)≤(k:Int))&&decide ((k:Int)<(s.ps.length:Int)))=true by simp;omega]at HP;rw[HK.o];obtain⟨m,hm⟩:=eX s.ps.length;obtain⟨z,hz⟩:=eX s.ps[k].known;have hkm:(k:Int)<(m:Int):=by omega
  rw[hm]at c7;rw[hz]at d0⊢;clear h hm hz hi HK hk;go_enter Tryz.func19,Tryz.ntmps19;go_wp2_with (go_at_call 49;refine HP.o.mono ?_;rintro e w' ⟨rfl,hw'⟩;subst w');go_ret2;exact⟨rfl,fR⟩
 have HK:Hid (fA s i=(0,1)):=by show fA s i=_;unfold fA;rw[dif_neg hi]
 rw[show(decide ((0:Int)≤i)&&decide (i<(s.ps.length:Int)))=false by simp;omega]at HP;rw[HK.o];clear h hi HK c7;go_enter Tryz.func19,Tryz.ntmps19;go_wp2_with (go_at_call 49;refine HP.o.mono ?_;rintro e w' ⟨rfl,hw'⟩;subst w');go_ret2;exact⟨rfl,fR⟩
theorem Li(h:SR B xb pb b RB ra rc w F s n)(i:Int):Rc 20 #[.p xb,.i i] w (fI (fA s i)) λw'=>Fr [] w w':=by
 have c11:cD w xb 11 (.slice (some (Ad pb 0)) s.ps.length s.ps.length):=ce h.blk.2 rfl;by_cases hi:0≤i∧i<s.ps.length
 .obtain⟨k,rfl⟩:∃k:Nat,i=(k:Int):=⟨i.toNat,by omega⟩;have hk:k<s.ps.length:=by omega
  have HK:Hid (fA s (k:Int)=(s.ps[k].known,0)):=by show fA s (k:Int)=_;unfold fA;rw[dif_pos hi];simp
  have d0:w.cell? (Ad pb (k*9))=some (.i s.ps[k].known):=h.aR hk (j:=0) (by omega);rw[HK.o];obtain⟨m,hm⟩:=eX s.ps.length;obtain⟨z,hz⟩:=eX s.ps[k].known;have hk0:¬(k:Int)<0:=by omega
  have hkm:(k:Int)<(m:Int):=by omega
  have aau:¬(m:Int)≤(k:Int):=by omega
  rw[hm]at c11;rw[hz]at d0⊢;clear h hm hz hi HK hk;go_enter Tryz.func20,Tryz.ntmps20;go_wp2;go_ret2;exact⟨rfl,fR⟩
 have HK:Hid (fA s i=(0,1)):=by show fA s i=_;unfold fA;rw[dif_neg hi]
 rw[HK.o];obtain⟨m,hm⟩:=eX s.ps.length;rw[hm]at c11 hi;clear h HK hm;by_cases h0:i<0
 .clear hi;go_enter Tryz.func20,Tryz.ntmps20;go_wp2;go_ret2;exact⟨rfl,fR⟩
 have h1:(m:Int)≤i:=by omega
 clear hi;go_enter Tryz.func20,Tryz.ntmps20;go_wp2;go_ret2;exact⟨rfl,fR⟩
end
def Sc.aX(s:Sc)(i:Nat)(p:Pr):Sc:={s with ps:=s.ps.set i p}
def Sc.pr(s:Sc)(i:Nat):Pr:=s.ps.getD i ⟨0,0,0,false,false,0,0,0,0⟩
def bN(O:gq)(s:Sc)(i:Nat):Sc:=if(s.pr i).sent=0 then s else{s with r:=(O.rel s.r (s.pr i).sent).2,ps:=s.ps.set i {s.pr i with sent:=0}}
section
variable {B xb pb b RB:Nat}{ra:Option Addr}{rc:Nat}{w w':World}{F F' L:List Nat}{s:Sc}{n n':Nat}{r':ak}{O:gq}
theorem Gw.lift(h:Gw F F' w w')(L:List Nat):Gw (L++F) (L++F') w w':=
 ⟨h.1.mono (λk hk=>List.mem_append_right _ hk),λk hk=>by
  rcases dT.1 hk with h1|h1
  .exact Or.inl (List.mem_append_left _ h1)
  exact(h.2 k h1).imp_left (List.mem_append_right _)⟩
theorem Gw.put{a:Addr}(ha:a.block∈L)(v:Value):Gw (L++F) (L++F) w (w.setCell a v):=⟨fR.setCell _ (Or.inl (List.mem_append_left _ ha)),λ_ hk=>Or.inl hk⟩
theorem Sc.dn{i:Nat}(hi:i<s.ps.length):s.pr i=s.ps[i]:=by simp[Sc.pr,hi]
theorem Ok.Zk(h:Ok n r'):(∀x∈r'.sh,x.au≠0)∧∀m∈r'.ms,m.1≠0:=by refine⟨λx hx=>by have:=(h.len.2.2.2 x hx).1;omega,λm hm=>?_⟩;obtain⟨s,q,k,_⟩:=h;have h1:m.1∈r'.ms.map Prod.fst:=fm.2 ⟨m,hm,rfl⟩;rw[<-k.ms]at h1;have:=k.gr m.1 (by unfold gls;exact List.mem_append_right _ h1);omega
theorem GJ(hO:bE O)(h:SP B xb pb b RB ra rc w F s n){i:Nat}(hi:i<s.ps.length)(hn:n+10≤1000000000):
 Rc 97 #[.p xb,.pointer (some (Ad pb (i*7)))] w (.tuple #[]) λw'=>∃F',SP B xb pb b RB ra rc w' F' (bN O s i) (n+1)∧Gw ([xb,pb]++F) ([xb,pb]++F') w w':=by
 have HH:=Hj2 h hi;have c0:cD w xb 0 (.p b):=ce h.blk.2 rfl;have d1:w.cell? (Ad pb (i*7+1))=some (.i (s.pr i).sent):=by rw[Sc.dn hi];exact h.aR hi (j:=1) (by omega)
 obtain⟨z,hz⟩:=eX (s.pr i).sent;have HZ:=Hd hz;have HC:Hid (∀W,Fr [] w W->Cl 72 #[.p b,.i z] W λe w'=>∃en:Int,e=.returned (.i en)∧w'.cell? (Ad xb 0)=some (.p b)∧w'.cell? (Ad pb (i*7+1))=some (.i z)∧w'.frozen? (Ad pb (i*7+1))=false∧∃F',SP B xb pb b RB ra rc (w'.setCell (Ad pb (i*7+1)) (.i 0)) F' (bN O s i) (n+1)∧Gw ([xb,pb]++F) ([xb,pb]++F') w (w'.setCell (Ad pb (i*7+1)) (.i 0))):=λW hW=>by
  have hS:=HH.o.1.same hW;have hr:=hO.rel s.r z (hS.sk.2.le (by omega));refine(hr.1.u hS.sk (by omega)).mono ?_;rintro e w' ⟨he,F',k',g'⟩;have hS':=hS.step k' g';have hi':=HH.o.2;refine⟨_,he,ce hS'.blk.2 rfl,?_,ay hS'.pr.2 _,F',?_,((Gw.of hW).lift _).trans ((g'.lift [xb,pb]).trans (Gw.put (by simp) _))⟩
  .have h9:=hS'.aR (i:=i) hi' (j:=1) (by omega);rw[h9];show some (Value.i s.ps[i].sent)=_;rw[<-Sc.dn hi',HZ.o]
  have h9:=hS'.set (i:=i) hi' (j:=1) (by omega) (v:=.i 0) (p:={s.pr i with sent:=0}) (by rw[Sc.dn hi'];rfl);have e9:bN O s i={s with r:=(O.rel s.r z).2,ps:=s.ps.set i {s.pr i with sent:=0}}:=by
   unfold bN;rw[HZ.o];by_cases h0:z=0
   .rw[if_pos h0];have e1:=hr.2 (by rw[h0];exact hS.sk.2.Zk.1);rw[e1];have e2:({s.pr i with sent:=0}:Pr)=s.ps[i]:=by rw[<-Sc.dn hi',<-h0,<-HZ.o]
    rw[e2,List.set_getElem_self]
   rw[if_neg h0]
  rw[e9];exact h9
 rw[hz]at d1;clear h hi hz;go_enter Tryz.func97,Tryz.ntmps97;go_wp2;go_region_held3 (λw'=>w'.cell? (Ad xb 0)=some (.p b)∧w'.cell? (Ad pb (i*7+1))=some (.i z))
  (first
    |exact⟨e0,e1⟩
    |go_keep)
  (first
    |(go_at_call 72;refine(HC.o _ (by first|exact(Fr.refl [] w).drew|exact Fr.refl [] w)).mono ?_;rintro e w2 ⟨en,rfl,e0,e1,z1,k2⟩;have H2:=Hd k2;clear k2))
 all_goals
  go_wp2;go_end0;exact⟨rfl,H2.o⟩
theorem KC(hO:bE O)(h:SR B xb pb b RB ra rc w F s n){i:Nat}(hi:i<s.ps.length)(hn:n+10≤1000000000):
 Rc 101 #[.p xb,.i i] w (.tuple #[]) λw'=>∃F',SR B xb pb b RB ra rc w' F' (bN O s i) (n+1)∧Gw ([xb,pb]++F) ([xb,pb]++F') w w':=by
 have HH:=Hj2 h hi;have Kh:Hid (∀W,Fr [] w W->W.cell? (Ad xb 0)=some (.p b)∧W.cell? (Ad xb 11)=some (.slice (some (Ad pb 0)) s.ps.length s.ps.length)∧W.cell? (Ad pb (i*9+2))=some (.i (s.pr i).sent)):=λW hW=>by have hS:=h.same hW;refine⟨ce hS.blk.2 rfl,ce hS.blk.2 rfl,by rw[Sc.dn hi];exact hS.aR hi (j:=2) (by omega)⟩
 obtain⟨c0,c11,d2⟩:=Kh.o w fR;obtain⟨z,hz⟩:=eX (s.pr i).sent;obtain⟨m,hm⟩:=eX s.ps.length;have HZ:=Hj2 hz hm;have him:(i:Int)<(m:Int):=by omega
 have hi0:(0:Int)≤(i:Int):=by omega
 rw[hz]at d2;rw[hm]at c11;clear h hi hz hm;by_cases h0:z=0
 .subst h0;go_enter Tryz.func101,Tryz.ntmps101;go_wp2;go_end0;refine⟨rfl,F,?_,Gw.refl _ _⟩;unfold bN;rw[if_pos HZ.o.1];exact⟨HH.o.1.sk.le (by omega),HH.o.1.blk,HH.o.1.pr,HH.o.1.ru⟩
 have h0e:(z != 0)=true:=by simpa using h0
 have HC:Hid (∀W,Fr [] w W->Cl 73 #[.p b,.i z] W λe w'=>∃en:Int,e=.returned (.i en)∧w'.cell? (Ad xb 0)=some (.p b)∧w'.cell? (Ad xb 11)=some (.slice (some (Ad pb 0)) m m)∧w'.cell? (Ad pb (i*9+2))=some (.i z)∧w'.frozen? (Ad pb (i*9+2))=false∧∃F',SR B xb pb b RB ra rc (w'.setCell (Ad pb (i*9+2)) (.i 0)) F' (bN O s i) (n+1)∧Gw ([xb,pb]++F) ([xb,pb]++F') w (w'.setCell (Ad pb (i*9+2)) (.i 0))):=λW hW=>by
  have hS:=HH.o.1.same hW;have hr:=hO.rel s.r z (hS.sk.2.le (by omega));refine(hr.1.ref hS.sk).mono ?_;rintro e w' ⟨he,F',k',g'⟩;have hS':=hS.step k' g';have hi':=HH.o.2;refine⟨_,he,ce hS'.blk.2 rfl,by rw[cell_of hS'.blk.2,<-HZ.o.2];rfl,?_,ay hS'.pr.2 _,F',?_,((Gw.of hW).lift _).trans ((g'.lift [xb,pb]).trans (Gw.put (by simp) _))⟩
  .have h9:=hS'.aR (i:=i) hi' (j:=2) (by omega);rw[h9];show some (Value.i s.ps[i].sent)=_;rw[<-Sc.dn hi',HZ.o.1]
  have h9:=hS'.set (i:=i) hi' (j:=2) (by omega) (v:=.i 0) (p:={s.pr i with sent:=0}) (by rw[Sc.dn hi'];rfl);unfold bN;rw[HZ.o.1,if_neg h0];exact h9
 go_enter Tryz.func101,Tryz.ntmps101;go_wp2;go_region_held3 (λw'=>w'.cell? (Ad xb 0)=some (.p b)∧w'.cell? (Ad xb 11)=some (.slice (some (Ad pb 0)) m m)∧w'.cell? (Ad pb (i*9+2))=some (.i z))
  (first
    |exact⟨e0,e11,e2⟩
    |go_keep)
  (first
    |(go_at_call 73;refine(HC.o _ (by first|exact(Fr.refl [] w).drew|exact Fr.refl [] w|exact(Fr.refl [] w).drewN _)).mono ?_;rintro e w2 ⟨en,rfl,e0,e11,e2,z2,k2⟩;have H2:=Hd k2;clear k2))
 all_goals
  go_wp2;go_end0;exact⟨rfl,H2.o⟩
end
structure Pe where
 k:Int
 x:Int
 g:Int
 num:Int
 aw:Int
 un:Int
 tr:Int
def Pe.cells(p:Pe):List Value:=[.i p.k,.i p.x,.i p.g,.i p.num,.u p.aw,.i p.un,.i p.tr]
def DX(l:List Pe):List Value:=l.flatMap Pe.cells
theorem Kk(l:List Pe)(i:Nat)(h:i<l.length):(DX l)[i*7]?=some (.i l[i].k)∧(DX l)[i*7+1]?=some (.i l[i].x)∧(DX l)[i*7+2]?=some (.i l[i].g)∧(DX l)[i*7+3]?=some (.i l[i].num)∧(DX l)[i*7+4]?=some (.u l[i].aw)∧(DX l)[i*7+5]?=some (.i l[i].un)∧(DX l)[i*7+6]?=some (.i l[i].tr):=by have hf:∀x:Pe,(Pe.cells x).length=7:=λ_=>rfl;exact⟨flat_get hf l i h 0 (by omega),flat_get hf l i h 1 (by omega),flat_get hf l i h 2 (by omega),flat_get hf l i h 3 (by omega),flat_get hf l i h 4 (by omega),flat_get hf l i h 5 (by omega),flat_get hf l i h 6 (by omega)⟩
def Pr.pe(p:Pr):Pe:=⟨p.known,p.sent,p.gave,p.num,p.aw,p.since+p.wait,p.tries⟩
theorem Oq(l:List Pr):DX (l.map Pr.pe)=K3 l:=by unfold DX K3;rw[List.flatMap_map];rfl
theorem NH(x:Int×Int×Int)(g:Int)(gb:Nat)(w:World)(hg:w.cell? (Ad gb 0)=some (.i g)):
 Rc 172 #[.agg #[.i x.1,.i x.2.1,.i x.2.2],.p gb] w (.bool (x.1==g)) λw'=>Fr [] w w':=by
 have lb:=dm _ _ hg;go_enter Tryz.func172,Tryz.ntmps172;go_wp2;go_ret;exact⟨rfl,fR.alloc _⟩
theorem Gh(gg cap:Nat)(l:List (Int×Int×Int))(g:Int)(gb:Nat)(w:World)(ho:w.heap[gg]?=some (.cells (dL l).toArray 84 (0,0)))(_hcap:l.length≤cap)(hg:w.cell? (Ad gb 0)=some (.i g))(hl:l.length≤1000000):
 Rc 204 #[.slice (some (Ad gg 0)) l.length cap,.func (.func 172) #[] #[.p gb]] w (.i (fi (λx:Int×Int×Int=>x.1==g) 0 l)) λw'=>Fr [] w w':=by
 obtain⟨r,hr⟩:=eX (fi (λx:Int×Int×Int=>x.1==g) 0 l);rw[hr];have HR:=Hd hr;have HO:=Hj2 ho hg;clear hr ho hg;go_enter Tryz.func204,Tryz.ntmps204;go_wp2;go_loopw [8] (λi wr=>∃k:Nat,k≤l.length∧i=.i k∧Hid (fi (λx:Int×Int×Int=>x.1==g) k (l.drop k)=r)∧Hid (Fr [] w wr)) (λi _=>l.length-(intOf i).toNat)
 case atStart=>exact⟨0,dC _,rfl,HR,fR⟩
 obtain⟨k,hk,rfl,HK,HW⟩:=hrel;obtain⟨W3,hW3⟩:=eY wr;subst hW3;clear HR;by_cases hlt:k<l.length
 .have H:=HK.o;rw[eN hlt,fi]at H;have hrow:W3.heap[gg]?=some (.cells (dL l).toArray 84 (0,0)):=by rw[HW.o.block gg (cY.1 HO.o.1).1 (by simp)];exact HO.o.1
  obtain⟨g0,g1,g2⟩:=iq l k hlt;obtain⟨x,hx⟩:=eX l[k];rw[hx]at g0 g1 g2 H;have d0:W3.cell? (Ad gg (k*3))=some (.i x.1):=by rw[cell_of hrow,dq];exact g0
  have d1:W3.cell? (Ad gg (k*3+1))=some (.i x.2.1):=by rw[cell_of hrow,dq];exact g1
  have d2:W3.cell? (Ad gg (k*3+2))=some (.i x.2.2):=by rw[cell_of hrow,dq];exact g2
  have hg':=HW.o.gb.cell HO.o.2 (by simp);have HC:=NH x g gb W3 hg';have hltz:(k:Int)<(l.length:Int):=by omega
  clear HK hrow hx hg' g0 g1 g2;cases hp:(x.1==g)
  .rw[hp]at HC;have HH:Hid (fi (λx:Int×Int×Int=>x.1==g) (k+1) (l.drop (k+1))=r):=by show _=_;simpa[hp]using H
   clear H;go_wp2_with (go_at_call 172;refine HC.mono ?_;rintro e w' ⟨rfl,hfr⟩;have Af:=Hd (HW.o.trans hfr (by simp));clear HW hfr);go_roundw
   case rel=>exact⟨k+1,by omega,by go_num,HH,Af⟩
   simp[intOf];omega
  rw[hp]at HC;have HH:Hid ((k:Int)=r):=by show _=_;simpa[hp]using H
  clear H;go_wp2_with (go_at_call 172;refine HC.mono ?_;rintro e w' ⟨rfl,hfr⟩;have Af:=Hd (HW.o.trans hfr (by simp));clear HW hfr);go_ret;exact⟨dz HH.o,Af.o⟩
 have hkk:k=l.length:=by omega
 have HH:Hid ((-1:Int)=r):=by have:=HK.o;rw[hkk]at this;show _=_;simpa[fi]using this
 clear HK;subst hkk;go_wp2;go_ret;exact⟨dz HH.o,HW.o⟩
theorem xX(gg cap:Nat)(l:List (Int×Int×Int))(g:Int)(gb:Nat)(w:World)(ho:w.heap[gg]?=some (.cells (dL l).toArray 84 (0,0)))(hcap:l.length≤cap)(hg:w.cell? (Ad gb 0)=some (.i g))(hl:l.length≤1000000):
 Rc 173 #[.slice (some (Ad gg 0)) l.length cap,.func (.func 172) #[] #[.p gb]] w (.bool (l.any λx=>x.1==g)) λw'=>Fr [] w w':=by
 have HI:=Hd (Gh gg cap l g gb w ho hcap hg hl);have hd:=qX (λx:Int×Int×Int=>x.1==g) l;obtain⟨r,hr⟩:=eX (fi (λx:Int×Int×Int=>x.1==g) 0 l);rw[hr]at HI hd;rw[<-hd];clear ho hg hr hd;go_enter Tryz.func173,Tryz.ntmps173;go_wp2_with (first
  |(go_at_call 204;refine HI.o.mono ?_;rintro e w1 ⟨rfl,f1⟩;have H1:=Hd f1;clear f1))
 go_ret;exact⟨rfl,H1.o⟩
theorem NI(x:Pe)(g:Int)(gb:Nat)(w:World)(hg:w.cell? (Ad gb 0)=some (.i g)):
 Rc 175 #[.agg #[.i x.k,.i x.x,.i x.g,.i x.num,.u x.aw,.i x.un,.i x.tr],.p gb] w (.bool (x.k==g)) λw'=>Fr [] w w':=by
 have lb:=dm _ _ hg;go_enter Tryz.func175,Tryz.ntmps175;go_wp2;go_ret;exact⟨rfl,fR.alloc _⟩
theorem Gi(gg cap:Nat)(l:List (Pe))(g:Int)(gb:Nat)(w:World)(ho:w.heap[gg]?=some (.cells (DX l).toArray 120 (0,0)))(_hcap:l.length≤cap)(hg:w.cell? (Ad gb 0)=some (.i g))(hl:l.length≤1000000):
 Rc 205 #[.slice (some (Ad gg 0)) l.length cap,.func (.func 175) #[] #[.p gb]] w (.i (fi (λx:Pe=>x.k==g) 0 l)) λw'=>Fr [] w w':=by
 obtain⟨r,hr⟩:=eX (fi (λx:Pe=>x.k==g) 0 l);rw[hr];have HR:=Hd hr;have HO:=Hj2 ho hg;clear hr ho hg;go_enter Tryz.func205,Tryz.ntmps205;go_wp2;go_loopw [8] (λi wr=>∃k:Nat,k≤l.length∧i=.i k∧Hid (fi (λx:Pe=>x.k==g) k (l.drop k)=r)∧Hid (Fr [] w wr)) (λi _=>l.length-(intOf i).toNat)
 case atStart=>exact⟨0,dC _,rfl,HR,fR⟩
 obtain⟨k,hk,rfl,HK,HW⟩:=hrel;obtain⟨W3,hW3⟩:=eY wr;subst hW3;clear HR;by_cases hlt:k<l.length
 .have H:=HK.o;rw[eN hlt,fi]at H;have hrow:W3.heap[gg]?=some (.cells (DX l).toArray 120 (0,0)):=by rw[HW.o.block gg (cY.1 HO.o.1).1 (by simp)];exact HO.o.1
  obtain⟨g0,g1,g2,g3,g4,g5,g6⟩:=Kk l k hlt;obtain⟨x,hx⟩:=eX l[k];rw[hx]at g0 g1 g2 g3 g4 g5 g6 H;have d0:W3.cell? (Ad gg (k*7))=some (.i x.k):=by rw[cell_of hrow,dq];exact g0
  have d1:W3.cell? (Ad gg (k*7+1))=some (.i x.x):=by rw[cell_of hrow,dq];exact g1
  have d2:W3.cell? (Ad gg (k*7+2))=some (.i x.g):=by rw[cell_of hrow,dq];exact g2
  have d3:W3.cell? (Ad gg (k*7+3))=some (.i x.num):=by rw[cell_of hrow,dq];exact g3
  have d4:W3.cell? (Ad gg (k*7+4))=some (.u x.aw):=by rw[cell_of hrow,dq];exact g4
  have d5:W3.cell? (Ad gg (k*7+5))=some (.i x.un):=by rw[cell_of hrow,dq];exact g5
  have d6:W3.cell? (Ad gg (k*7+6))=some (.i x.tr):=by rw[cell_of hrow,dq];exact g6
  have hg':=HW.o.gb.cell HO.o.2 (by simp);have HC:=NI x g gb W3 hg';have hltz:(k:Int)<(l.length:Int):=by omega
  clear HK hrow hx hg' g0 g1 g2 g3 g4 g5 g6;cases hp:(x.k==g)
  .rw[hp]at HC;have HH:Hid (fi (λx:Pe=>x.k==g) (k+1) (l.drop (k+1))=r):=by show _=_;simpa[hp]using H
   clear H;go_wp2_with (go_at_call 175;refine HC.mono ?_;rintro e w' ⟨rfl,hfr⟩;have Af:=Hd (HW.o.trans hfr (by simp));clear HW hfr);go_roundw
   case rel=>exact⟨k+1,by omega,by go_num,HH,Af⟩
   simp[intOf];omega
  rw[hp]at HC;have HH:Hid ((k:Int)=r):=by show _=_;simpa[hp]using H
  clear H;go_wp2_with (go_at_call 175;refine HC.mono ?_;rintro e w' ⟨rfl,hfr⟩;have Af:=Hd (HW.o.trans hfr (by simp));clear HW hfr);go_ret;exact⟨dz HH.o,Af.o⟩
 have hkk:k=l.length:=by omega
 have HH:Hid ((-1:Int)=r):=by have:=HK.o;rw[hkk]at this;show _=_;simpa[fi]using this
 clear HK;subst hkk;go_wp2;go_ret;exact⟨dz HH.o,HW.o⟩
theorem xY(gg cap:Nat)(l:List (Pe))(g:Int)(gb:Nat)(w:World)(ho:w.heap[gg]?=some (.cells (DX l).toArray 120 (0,0)))(hcap:l.length≤cap)(hg:w.cell? (Ad gb 0)=some (.i g))(hl:l.length≤1000000):
 Rc 174 #[.slice (some (Ad gg 0)) l.length cap,.func (.func 175) #[] #[.p gb]] w (.bool (l.any λx=>x.k==g)) λw'=>Fr [] w w':=by
 have HI:=Hd (Gi gg cap l g gb w ho hcap hg hl);have hd:=qX (λx:Pe=>x.k==g) l;obtain⟨r,hr⟩:=eX (fi (λx:Pe=>x.k==g) 0 l);rw[hr]at HI hd;rw[<-hd];clear ho hg hr hd;go_enter Tryz.func174,Tryz.ntmps174;go_wp2_with (first
  |(go_at_call 205;refine HI.o.mono ?_;rintro e w1 ⟨rfl,f1⟩;have H1:=Hd f1;clear f1))
 go_ret;exact⟨rfl,H1.o⟩
theorem Ed{B xb pb b RB:Nat}{ra:Option Addr}{rc:Nat}{w:World}{F:List Nat}{s:Sc}{n0:Nat}(h:SP B xb pb b RB ra rc w F s n0)(hl:s.ps.length≤3)(g:Int):
 Rc 143 #[.p xb,.i g] w (.bool (s.ps.any λx=>x.known==g)) λw'=>Fr [] w w':=by
 have c7:cD w xb 7 (.slice (some (Ad pb 0)) s.ps.length s.ps.length):=ce h.blk.2 rfl;obtain⟨w1,hw1⟩:=eX (w.alloc (.cells #[.i g] 3));obtain⟨gb,hgb⟩:=eX w.heap.size;have n1:w1.heap[gb]?=some (.cells #[.i g] 3 (0,0)):=by rw[<-hw1,<-hgb];exact di w _
 have f1:Fr [] w w1:=by rw[<-hw1];exact fR.alloc _
 have h1:=h.same f1;have HC:Hid (Rc 174 #[.slice (some (Ad pb 0)) s.ps.length s.ps.length,.func (.func 175) #[] #[.p gb]] w1 (.bool (s.ps.any λx=>x.known==g)) λw'=>Fr [] w1 w'):=by have h9:=xY pb s.ps.length (s.ps.map Pr.pe) g gb w1 (by rw[Oq];exact h1.pr.2) (by simp) (ce n1 rfl) (by simp;omega);rw[eI,List.any_map]at h9;exact h9
 have d7:cD w1 xb 7 (.slice (some (Ad pb 0)) s.ps.length s.ps.length):=ce h1.blk.2 rfl;have H1:=Hd f1;obtain⟨r,hr⟩:=eX (s.ps.any λx=>x.known==g);obtain⟨n,hn⟩:=eX s.ps.length;rw[hr]at HC⊢;rw[hn]at HC c7 d7;clear h h1 n1 f1 hr hl hn;go_enter Tryz.func143,Tryz.ntmps143;go_wp2_with (first
  |(go_at_call 174;refine HC.o.mono ?_;rintro e w2 ⟨rfl,f2⟩;have H2:=Hd (H1.o.trans f2 (by simp));clear f2))
 go_ret;exact⟨rfl,H2.o⟩
def bB(O:gq)(s:Sc)(i:Nat)(g:Int):Sc:={s with r:=(O.mark s.r g).2,ps:=s.ps.set i {s.pr i with known:=g}}
def bO(O:gq)(s:Sc)(i:Nat)(g:Int):Sc:=if(bB O s i g).ps.any (λx=>x.known==(s.pr i).known)then bB O s i g else{bB O s i g with r:=(O.yG (bB O s i g).r (s.pr i).known).2}
section
variable {B xb pb b RB:Nat}{ra:Option Addr}{rc:Nat}{w w':World}{F F' L:List Nat}{s:Sc}{n n':Nat}{r':ak}{O:gq}
theorem KS(hO:bE O)(h:SP B xb pb b RB ra rc w F s n){i:Nat}(hi:i<s.ps.length)(hl:s.ps.length≤3)(g:Int)(hn:n+10≤1000000000):
 Rc 96 #[.p xb,.i i,.i g] w (.tuple #[]) λw'=>∃F',SP B xb pb b RB ra rc w' F' (bO O s i g) (n+2)∧Gw ([xb,pb]++F) ([xb,pb]++F') w w':=by
 have HH:=Hj4 h hi hl hO;have c0:cD w xb 0 (.p b):=ce h.blk.2 rfl;obtain⟨z,hz⟩:=eX (s.pr i).known;obtain⟨m,hm⟩:=eX s.ps.length;have HZ:=Hj2 hz hm;have him:(i:Int)<(m:Int):=by omega
 have hi0:(0:Int)≤(i:Int):=by omega
 have HM:Hid (Cl 75 #[.p b,.i g] w λe w'=>∃en:Int,e=.returned (.i en)∧w'.cell? (Ad xb 0)=some (.p b)∧w'.cell? (Ad xb 7)=some (.slice (some (Ad pb 0)) m m)∧w'.cell? (Ad pb (i*7))=some (.i z)∧w'.frozen? (Ad pb (i*7))=false∧∃F',SP B xb pb b RB ra rc (w'.setCell (Ad pb (i*7)) (.i g)) F' (bB O s i g) (n+1)∧Gw ([xb,pb]++F) ([xb,pb]++F') w (w'.setCell (Ad pb (i*7)) (.i g))):=by
  refine((hO.mark s.r g (h.sk.2.le (by omega))).u h.sk (by omega)).mono ?_;rintro e w' ⟨he,F',k',g'⟩;have hS':=h.step k' g';refine⟨_,he,ce hS'.blk.2 rfl,by rw[cell_of hS'.blk.2,<-hm];rfl,?_,ay hS'.pr.2 _,F',?_,(g'.lift [xb,pb]).trans (Gw.put (by simp) _)⟩
  .have h9:=hS'.aR (i:=i) hi (j:=0) (by omega);rw[ix]at h9;rw[h9];show some (Value.i s.ps[i].known)=_;rw[<-Sc.dn hi,hz]
  have h9:=hS'.set (i:=i) hi (j:=0) (by omega) (v:=.i g) (p:={s.pr i with known:=g}) (by rw[Sc.dn hi];rfl);rw[ix]at h9;exact h9
 clear h hi hz hm hl hO;have HK:Hid (∀W,(∃F',SP B xb pb b RB ra rc W F' (bB O s i g) (n+1)∧Gw ([xb,pb]++F) ([xb,pb]++F') w W)->Rc 143 #[.p xb,.i z] W (.bool ((bB O s i g).ps.any λx=>x.known==z)) λw'=>w'.cell? (Ad xb 0)=some (.p b)∧∃F',SP B xb pb b RB ra rc w' F' (bB O s i g) (n+1)∧Gw ([xb,pb]++F) ([xb,pb]++F') w w'):=λW⟨F',hS,g'⟩=>by refine(Ed hS (by show(s.ps.set i _).length≤3;rw[eR];exact HH.o.2.2.1) z).mono ?_;rintro e w' ⟨rfl,f⟩;have hS2:=hS.same f;exact⟨rfl,ce hS2.blk.2 rfl,F',hS2,g'.trans (Gw.of f)⟩
 obtain⟨an,han⟩:=eX ((bB O s i g).ps.any λx=>x.known==z);have HF:Hid (bO O s i g=if an then bB O s i g else{bB O s i g with r:=(O.yG (bB O s i g).r z).2}):=by show bO O s i g=_;unfold bO;rw[HZ.o.1,han]
 rw[han]at HK;clear han;have HU:Hid (∀W,(∃F',SP B xb pb b RB ra rc W F' (bB O s i g) (n+1)∧Gw ([xb,pb]++F) ([xb,pb]++F') w W)->Cl 77 #[.p b,.i z] W λe w'=>∃en:Int,e=.returned (.i en)∧∃F',SP B xb pb b RB ra rc w' F' {bB O s i g with r:=(O.yG (bB O s i g).r z).2} (n+2)∧Gw ([xb,pb]++F) ([xb,pb]++F') w w'):=λW⟨F',hS,g'⟩=>by refine((HH.o.2.2.2.yG (bB O s i g).r z (hS.sk.2.le (by omega))).1.u hS.sk (by omega)).mono ?_;rintro e w' ⟨he,F2,k2,g2⟩;exact⟨_,he,F2,hS.step k2 g2,g'.trans (g2.lift [xb,pb])⟩
 cases an with
 |true=>
  rw[if_pos rfl]at HF;go_enter Tryz.func96,Tryz.ntmps96;go_wp2_with (first
   |(go_at_call 143;refine(HK.o _ H2.o).mono ?_;rintro e w3 ⟨rfl,e30,k3⟩;have H3:=Hd k3;clear k3)
   |(go_at_call 75;refine HM.o.mono ?_;rintro e w2 ⟨en,rfl,e0,e7,e1,z1,k2⟩;have H2:=Hd k2;clear k2))
  go_end0;refine⟨rfl,?_⟩;obtain⟨F',h1,h2⟩:=H3.o;rw[HF.o];exact⟨F',⟨h1.sk.le (by omega),h1.blk,h1.pr,h1.ru⟩,h2⟩
 |false=>
  rw[if_neg (by simp)]at HF;go_enter Tryz.func96,Tryz.ntmps96;go_wp2_with (first
   |(go_at_call 77;refine(HU.o _ H3.o).mono ?_;rintro e w4 ⟨en4,rfl,k4⟩;have H4:=Hd k4;clear k4)
   |(go_at_call 143;refine(HK.o _ H2.o).mono ?_;rintro e w3 ⟨rfl,e30,k3⟩;have H3:=Hd k3;clear k3)
   |(go_at_call 75;refine HM.o.mono ?_;rintro e w2 ⟨en,rfl,e0,e7,e1,z1,k2⟩;have H2:=Hd k2;clear k2))
  go_end0;exact⟨rfl,by rw[HF.o];exact H4.o⟩
end
section
variable {B xb pb b RB:Nat}{ra:Option Addr}{rc:Nat}{w w':World}{F F' L:List Nat}{s:Sc}{n n':Nat}{r':ak}{O:gq}
theorem SR.up(h:SR B xb pb b RB ra rc w F s n){k:Nat}(hk:n≤k):SR B xb pb b RB ra rc w F s k:=⟨h.sk.le hk,h.blk,h.pr,h.ru⟩
theorem SP.up(h:SP B xb pb b RB ra rc w F s n){k:Nat}(hk:n≤k):SP B xb pb b RB ra rc w F s k:=⟨h.sk.le hk,h.blk,h.pr,h.ru⟩
theorem yF(hO:bE O){i:Nat}(hi:i<s.ps.length){g:Int}(hk:Ok 1000000000 (bB O s i g).r)(hz:(s.pr i).known=0∨(s.pr i).known=g):bO O s i g=bB O s i g:=by
 unfold bO;by_cases ha:((bB O s i g).ps.any λx=>x.known==(s.pr i).known)=true
 .rw[if_pos ha]
 rw[if_neg ha];rcases hz with h0|h0
 .rw[h0,(hO.yG _ 0 hk).2 hk.Zk.2]
 exfalso;apply ha;rw[fW];refine⟨{s.pr i with known:=g},List.mem_set hi _,?_⟩;simp[h0]
theorem KQ(hO:bE O)(h:SR B xb pb b RB ra rc w F s n){i:Nat}(hi:i<s.ps.length)(hl:s.ps.length≤3)(g:Int)(hn:n+10≤1000000000):
 Rc 100 #[.p xb,.i i,.i g] w (.tuple #[]) λw'=>∃F',SR B xb pb b RB ra rc w' F' (bO O s i g) (n+2)∧Gw ([xb,pb]++F) ([xb,pb]++F') w w':=by
 obtain⟨z,hz⟩:=eX (s.pr i).known;obtain⟨m,hm⟩:=eX s.ps.length;have c11:w.cell? (Ad xb 11)=some (.slice (some (Ad pb 0)) m m):=by rw[cell_of h.blk.2,<-hm];rfl
 have d0:w.cell? (Ad pb (i*9))=some (.i z):=by have h9:=h.aR hi (j:=0) (by omega);rw[ix]at h9;rw[h9,<-hz,Sc.dn hi];rfl
 have z0:w.frozen? (Ad pb (i*9))=false:=ay h.pr.2 _;have HH:=Hj4 h hi hl hO;have HZ:Hid ((s.pr i).known=z∧s.ps.length=m∧(bB O s i g).ps.length=m):=⟨hz,hm,by show(s.ps.set i _).length=m;rw[eR];exact hm⟩;have Vy:m≤3:=by omega
 have him:(i:Int)<(m:Int):=by omega
 have hi0:(0:Int)≤(i:Int):=by omega
 obtain⟨w1,hw1⟩:=eX (w.setCell (Ad pb (i*9)) (.i g));have H1:Hid (SR B xb pb b RB ra rc w1 F {s with ps:=s.ps.set i {s.pr i with known:=g}} n∧Gw ([xb,pb]++F) ([xb,pb]++F) w w1):=by rw[<-hw1];have h9:=h.set (i:=i) hi (j:=0) (by omega) (v:=.i g) (p:={s.pr i with known:=g}) (by rw[Sc.dn hi];rfl);rw[ix]at h9;exact⟨h9,Gw.put (by simp) _⟩
 have e10:cD w1 xb 0 (.p b):=ce H1.o.1.blk.2 rfl;have HM:Hid (Cl 76 #[.p b,.i g] w1 λe w'=>∃en:Int,e=.returned (.i en)∧∃F',SR B xb pb b RB ra rc w' F' (bB O s i g) (n+1)∧Gw ([xb,pb]++F) ([xb,pb]++F') w w'):=by refine((hO.mark s.r g (h.sk.2.le (by omega))).ref H1.o.1.sk).mono ?_;rintro e w' ⟨he,F',k',g'⟩;exact⟨_,he,F',H1.o.1.step k' g',H1.o.2.trans (g'.lift [xb,pb])⟩
 clear h hi hz hm hl hO;by_cases hst:z=0∨z=g
 .have HS:Hid (∀W,(∃F',SR B xb pb b RB ra rc W F' (bB O s i g) (n+1)∧Gw ([xb,pb]++F) ([xb,pb]++F') w W)->∃F',SR B xb pb b RB ra rc W F' (bO O s i g) (n+2)∧Gw ([xb,pb]++F) ([xb,pb]++F') w W):=λW⟨F',h1,h2⟩=>by rw[yF HH.o.2.2.2 HH.o.2.1 (h1.sk.2.le (by omega)) (by rw[HZ.o.1];exact hst)];exact⟨F',h1.up (by omega),h2⟩
  by_cases hz0:z=0
  .have q0:(z==0)=true:=by simpa using hz0
   clear hst hz0;go_enter Tryz.func100,Tryz.ntmps100;go_wp2_with (go_at_call 76;refine HM.o.mono ?_;rintro e w2 ⟨en,rfl,k2⟩;have H2:=Hd k2;clear k2);exact ez (v:=.tuple #[]) (results_none rfl _ _ _) rfl ⟨rfl,HS.o _ H2.o⟩
  have q0:(z==0)=false:=by simpa using hz0
  have q1:(z==g)=true:=by simpa using hst.resolve_left hz0
  clear hst hz0;go_enter Tryz.func100,Tryz.ntmps100;go_wp2_with (go_at_call 76;refine HM.o.mono ?_;rintro e w2 ⟨en,rfl,k2⟩;have H2:=Hd k2;clear k2);exact ez (v:=.tuple #[]) (results_none rfl _ _ _) rfl ⟨rfl,HS.o _ H2.o⟩
 have q0:(z==0)=false:=by simp;exactλe=>hst (Or.inl e)
 have q1:(z==g)=false:=by simp;exactλe=>hst (Or.inr e)
 clear hst;have HU:Hid (∀W,(∃F',SR B xb pb b RB ra rc W F' (bB O s i g) (n+1)∧Gw ([xb,pb]++F) ([xb,pb]++F') w W)->Cl 78 #[.p b,.i z] W λe w'=>∃en:Int,e=.returned (.i en)∧∃F',SR B xb pb b RB ra rc w' F' {bB O s i g with r:=(O.yG (bB O s i g).r z).2} (n+2)∧Gw ([xb,pb]++F) ([xb,pb]++F') w w'):=λW⟨F',hS,g'⟩=>by refine((HH.o.2.2.2.yG (bB O s i g).r z (hS.sk.2.le (by omega))).1.ref hS.sk).mono ?_;rintro e w' ⟨he,F2,k2,g2⟩;exact⟨_,he,F2,hS.step k2 g2,g'.trans (g2.lift [xb,pb])⟩
 go_enter Tryz.func100,Tryz.ntmps100;go_wp2_with (go_at_call 76;refine HM.o.mono ?_;rintro e w2 ⟨en,rfl,k2⟩;have H2:=Hd k2;clear k2);have HC:Hid (∀k(hk:k<(bB O s i g).ps.length),w2.cell? (Ad pb (k*9))=some (.i (bB O s i g).ps[k].known)):=λk hk=>by obtain⟨F',h1,_⟩:=H2.o;have h9:=h1.aR hk (j:=0) (by omega);rw[ix]at h9;exact h9
 have e20:w2.cell? (Ad xb 0)=some (.p b):=by obtain⟨F',h1,_⟩:=H2.o;rw[cell_of h1.blk.2];rfl
 have e211:w2.cell? (Ad xb 11)=some (.slice (some (Ad pb 0)) m m):=by obtain⟨F',h1,_⟩:=H2.o;rw[cell_of h1.blk.2,<-HZ.o.2.2];rfl
 clear c11 d0 z0 e10 hw1;go_loopw [7] (λv wr=>∃k:Nat,k≤m∧v=.i k∧wr=w2∧Hid (∀j(hj:j<(bB O s i g).ps.length),j<k->(bB O s i g).ps[j].known≠z)) (λv _=>m-(intOf v).toNat)
 case atStart=>exact⟨0,dC _,rfl,rfl,λj _ h=>absurd h (Nat.not_lt_zero _)⟩
 obtain⟨k,hk,rfl,hwr,HK⟩:=hrel;subst hwr;by_cases hlt:k<m
 .have hltz:(k:Int)<(m:Int):=by omega
  have hkl:k<(bB O s i g).ps.length:=by rw[HZ.o.2.2];exact hlt
  have d2:=HC.o k hkl;obtain⟨y,hy⟩:=eX (bB O s i g).ps[k].known;rw[hy]at d2;by_cases hyz:y=z
  .subst hyz;have HS:Hid (bO O s i g=bB O s i g):=by show bO O s i g=_;unfold bO;rw[if_pos];rw[fW];exact⟨_,eE hkl,by rw[hy,HZ.o.1];simp⟩
   have q2:(y==y)=true:=by simp
   clear hkl hy;go_wp2;refine ez (v:=.tuple #[]) (results_none rfl _ _ _) rfl ⟨rfl,?_⟩;obtain⟨F',h1,h2⟩:=H2.o;rw[HS.o];exact⟨F',h1.up (by omega),h2⟩
  have q2:(y==z)=false:=by simpa using hyz
  have HS:Hid (∀j(hj:j<(bB O s i g).ps.length),j<k+1->(bB O s i g).ps[j].known≠z):=λj hj h=>by
   by_cases e:j=k
   .subst e;rw[hy];exact hyz
   exact HK.o j hj (by omega)
  clear hkl hy hyz;go_wp2;go_roundw
  case rel=>exact⟨k+1,by omega,by go_num,by first|rfl|trivial,HS⟩
  simp[intOf];omega
 have hltz:¬(k:Int)<(m:Int):=by omega
 have HS:Hid (bO O s i g={bB O s i g with r:=(O.yG (bB O s i g).r z).2}):=by show bO O s i g=_;unfold bO;rw[if_neg,HZ.o.1];rw[fW];rintro⟨x,hx,e⟩;obtain⟨j,hj,rfl⟩:=List.getElem_of_mem hx;rw[HZ.o.1]at e;exact HK.o j hj (by have:=HZ.o.2.2;omega) (by simpa using e)
 go_wp2_with (go_at_call 78;refine(HU.o _ H2.o).mono ?_;rintro e w4 ⟨en4,rfl,k4⟩;have H4:=Hd k4;clear k4);go_end0;exact⟨rfl,by rw[HS.o];exact H4.o⟩
end
def jh(p:Pr)(t nw:Int):Bool:=if p.wt then decide (p.since+p.wait≤t)else(decide (nw≠0)&&decide (nw≠p.known)&&decide (nw≠p.gave))
def gN(wait cap:Int):Nat->Int
 |0=>wait
 |k+1=>min (2*gN wait cap k) cap
theorem qy{wait cap:Int}(h:1≤wait∧wait≤cap):∀k,1≤gN wait cap k∧gN wait cap k≤cap
 |0=>h
 |k+1=>by have:=qy h k;show 1≤min _ _∧min _ _≤cap;omega
theorem yA{wait cap:Int}(h:1≤wait∧wait≤cap){k:Nat}(hk:gN wait cap k=cap):∀j,k≤j->gN wait cap j=cap:=λj hj=>by
 induction j with
 |zero=>
  have:k=0:=by omega
  rw[<-this];exact hk
 |succ j ih=>
  by_cases e:k=j+1
  .rw[<-e];exact hk
  have:=ih (by omega);show min _ _=cap;rw[this];omega
theorem Pr.Cc(p:Pr):p.aw=0↔p.wt=false:=by unfold Pr.aw;cases p.wt<;>cases p.dt<;>simp
section
variable {B xb pb b RB:Nat}{ra:Option Addr}{rc:Nat}{w w':World}{F F' L:List Nat}{s:Sc}{n n':Nat}{r':ak}{O:gq}
theorem SL(h:SP B xb pb b RB ra rc w F s n){i:Nat}(hi:i<s.ps.length)(ti nw:Int):
 Rc 89 #[.pointer (some (Ad pb (i*7))),.i ti,.i nw] w (.bool (jh (s.pr i) ti nw)) λw'=>Fr [] w w':=by
 have c0:w.cell? (Ad pb (i*7))=some (.i (s.pr i).known):=by rw[Sc.dn hi];exact h.aR hi (j:=0) (by omega)
 have c2:w.cell? (Ad pb (i*7+2))=some (.i (s.pr i).gave):=by rw[Sc.dn hi];exact h.aR hi (j:=2) (by omega)
 have c4:w.cell? (Ad pb (i*7+4))=some (.u (s.pr i).aw):=by rw[Sc.dn hi];exact h.aR hi (j:=4) (by omega)
 have c5:w.cell? (Ad pb (i*7+5))=some (.i ((s.pr i).since+(s.pr i).wait)):=by rw[Sc.dn hi];exact h.aR hi (j:=5) (by omega)
 obtain⟨p,hp⟩:=eX (s.pr i);rw[hp]at c0 c2 c4 c5⊢;clear h hi hp;unfold jh;by_cases ha:p.aw=0
 .rw[(p.Cc.1 ha)];rw[ha]at c4;obtain⟨kn,hkn⟩:=eX p.known;obtain⟨gv,hgv⟩:=eX p.gave;rw[hkn]at c0⊢;rw[hgv]at c2⊢;clear ha hkn hgv;go_enter Tryz.func89,Tryz.ntmps89;go_wp2;all_goals
   go_ret;refine⟨?_,fR⟩;by_cases h3:nw=gv<;>first
    |(simp_all [bne];done)
    |simp_all
 have hae:(p.aw==0)=false:=by simpa using ha
 have hw:p.wt=true:=by
  cases e:p.wt
  .exact absurd (p.Cc.2 e) ha
  rfl
 rw[hw];obtain⟨un,hun⟩:=eX (p.since+p.wait);rw[hun]at c5⊢;clear ha hw hun;go_enter Tryz.func89,Tryz.ntmps89;go_wp2;all_goals
  go_ret;exact⟨rfl,fR⟩
theorem Aj(h:SP B xb pb b RB ra rc w F s n)(hw:1≤s.wait∧s.wait≤s.cap∧s.cap≤1000)(tr:Nat)(htr:tr≤1100000000):
 Rc 138 #[.p xb,.i tr] w (.i (gN s.wait s.cap tr)) λw'=>Fr [] w w':=by
 have c4:cE w xb 4 s.wait:=ce h.blk.2 rfl;have c5:cE w xb 5 s.cap:=ce h.blk.2 rfl;obtain⟨wt,hwt⟩:=eX s.wait;obtain⟨mo,hmo⟩:=eX s.cap;rw[hwt]at c4 hw⊢;rw[hmo]at c5 hw⊢;have HL:=Hd (qy ⟨hw.1,hw.2.1⟩);have HW:=Hj2 hw.1 hw.2.1;clear h hwt hmo;go_enter Tryz.func138,Tryz.ntmps138;go_wp2;go_loop [5,11] (λsec i=>∃k:Nat,k≤tr∧i=.i k∧sec=.i (gN wt mo k)) (λ_ i=>tr-(intOf i).toNat)
 case atStart=>exact⟨0,dC _,rfl,rfl⟩
 obtain⟨k,hk,rfl,rfl⟩:=hrel;have hm:mo≤1000:=hw.2.2;obtain⟨q,hq⟩:=eX (gN wt mo k);have hq1:1≤q∧q≤mo:=by rw[<-hq];exact HL.o k
 have hq3:q≤1000:=by omega
 have HQ:Hid (gN wt mo (k+1)=min (2*q) mo∧gN wt mo k=q):=⟨by rw[<-hq];rfl,hq⟩;rw[hq];clear hq;by_cases hlt:k<tr
 .have hltz:(k:Int)<(tr:Int):=by omega
  by_cases hge:mo≤q*2
  .have HR:=Hd (yA HW.o (k:=k+1) (by rw[HQ.o.1];omega) tr (by omega));go_wp2;go_ret;exact⟨dz HR.o.symm,fR⟩
  have HR:Hid (q*2=gN wt mo (k+1)):=by have:=HQ.o.1;show _=_;omega
  go_wp2;go_round
  case rel=>exact⟨k+1,by omega,by go_num,by first|(rw[<-HR.o];done)|(rw[<-HR.o];go_num)⟩
  simp[intOf];omega
 have hltz:¬(k:Int)<(tr:Int):=by omega
 have hkt:k=tr:=by omega
 subst hkt;go_wp2;go_ret;exact⟨dz HQ.o.2.symm,fR⟩
end
def Pr.asked(p:Pr)(t wait:Int):Pr:={p with num:=p.num+1,wt:=true,dt:=false,since:=t,wait:=wait}
section
variable {B xb pb b RB:Nat}{ra:Option Addr}{rc:Nat}{w w':World}{F F' L:List Nat}{s:Sc}{n n':Nat}{r':ak}{O:gq}
theorem SR.mG(h:SR B xb pb b RB ra rc w F s n){x:Nat}{c:Array Value}{t:TypeId}(f:Fr [x] w w')(h1:x∉F)(h2:xb≠x)(h3:pb≠x)(hx:w.heap[x]?=some (.cells c t (0,0)))(ht:t≠172):SR B xb pb b RB ra rc w' F s n:=⟨h.sk.mG f h1,h.blk.mG f h2,h.pr.mG f h3,h.ru.mG hx ht f⟩
theorem SP.mG(h:SP B xb pb b RB ra rc w F s n){x:Nat}{c:Array Value}{t:TypeId}(f:Fr [x] w w')(h1:x∉F)(h2:xb≠x)(h3:pb≠x)(hx:w.heap[x]?=some (.cells c t (0,0)))(ht:t≠172):SP B xb pb b RB ra rc w' F s n:=⟨h.sk.mG f h1,h.blk.mG f h2,h.pr.mG f h3,h.ru.mG hx ht f⟩
theorem Ob(h:SR B xb pb b RB ra rc w F s n){i:Nat}(hi:i<s.ps.length)(hl:s.ps.length≤3)(wait:Int)(jM:0≤(s.pr i).num∧(s.pr i).num<4294967295):
 Rc 93 #[.p xb,.i i,.i wait] w (.agg #[.i i,.t (bU (aW 65 i ((s.pr i).num+1)))]) λw'=>SR B xb pb b RB ra rc w' F (s.aX i ((s.pr i).asked s.time wait)) n∧Gw ([xb,pb]++F) ([xb,pb]++F) w w':=by
 obtain⟨m,hm⟩:=eX s.ps.length;obtain⟨w0,hw0⟩:=eX (w.alloc (.cells #[.i 0,.t ⟨#[]⟩] 186));obtain⟨bx,hbx⟩:=eX w.heap.size;have f0:Fr [] w w0:=by rw[<-hw0];exact fR.alloc _
 have h0:=h.same f0;have b0:w0.heap[bx]?=some (.cells #[.i 0,.t ⟨#[]⟩] 186 (0,0)):=by rw[<-hw0,<-hbx];exact di w _
 have c11:w0.cell? (Ad xb 11)=some (.slice (some (Ad pb 0)) m m):=by rw[cell_of h0.blk.2,<-hm];rfl
 have c10:cE w0 xb 10 s.time:=ce h0.blk.2 rfl;obtain⟨p,hp⟩:=eX (s.pr i);have hpi:s.ps[i]=p:=by rw[<-Sc.dn hi];exact hp
 have d3:w0.cell? (Ad pb (i*9+3))=some (.bool p.wt):=by rw[<-hpi];exact h0.aR hi (j:=3) (by omega)
 have d4:w0.cell? (Ad pb (i*9+4))=some (.bool p.dt):=by rw[<-hpi];exact h0.aR hi (j:=4) (by omega)
 have d5:w0.cell? (Ad pb (i*9+5))=some (.i p.num):=by rw[<-hpi];exact h0.aR hi (j:=5) (by omega)
 have d6:w0.cell? (Ad pb (i*9+6))=some (.i p.since):=by rw[<-hpi];exact h0.aR hi (j:=6) (by omega)
 have d7:w0.cell? (Ad pb (i*9+7))=some (.i p.wait):=by rw[<-hpi];exact h0.aR hi (j:=7) (by omega)
 have z:∀j,w0.frozen? (Ad pb j)=false:=λj=>ay h0.pr.2 _;have z3:=z (i*9+3);have z4:=z (i*9+4);have z5:=z (i*9+5);have z6:=z (i*9+6);have z7:=z (i*9+7);have y0:cE w0 bx 0 0:=ce b0 rfl;have y1:cD w0 bx 1 (.t ⟨#[]⟩):=ce b0 rfl;have hne:=h.ne;have hnp:bx≠pb:=by have:=h.pr.lt;omega
 have hnx:bx≠xb:=by have:=h.blk.lt;omega
 have Wz:Hid (bx∉F∧bx≠xb∧bx≠pb∧w.heap.size≤bx):=⟨h.sk.new (by omega),hnx,hnp,by omega⟩;have HH:Hid (SR B xb pb b RB ra rc w0 F s n∧i<s.ps.length∧Fr [] w w0∧∀hi:i<s.ps.length,s.ps[i]=p):=⟨h0,hi,f0,λ_=>hpi⟩;have hi3:i<3:=by omega
 have him:(i:Int)<(m:Int):=by omega
 have hi0:(0:Int)≤(i:Int):=by omega
 rw[hp]at jM⊢;have e1:IntKind.i64.wrap (p.num+1)=p.num+1:=aD ⟨by omega,by omega⟩;clear h h0 f0 b0 hi hl hm hp hpi z;obtain⟨k,hk⟩:∃k:Nat,p.num+1=(k:Int):=⟨(p.num+1).toNat,by omega⟩;have Zg:=Hd hk;clear hk;obtain⟨W5,kJ⟩:=eX (((((w0.setCell (Ad pb (i*9+5)) (.i (p.num+1))).setCell (Ad pb (i*9+3)) (.bool true)).setCell (Ad pb (i*9+4)) (.bool false)).setCell (Ad pb (i*9+6)) (.i s.time)).setCell (Ad pb (i*9+7)) (.i wait));have H5:Hid (SR B xb pb b RB ra rc W5 F (s.aX i (p.asked s.time wait)) n∧Gw ([xb,pb]++F) ([xb,pb]++F) w W5):=by obtain⟨h0,hi,f0,hpi⟩:=HH.o;have hpi:=hpi hi;have s1:=h0.set (i:=i) hi (j:=5) (by omega) (v:=.i (p.num+1)) (p:={p with num:=p.num+1}) (by rw[hpi];rfl);have s2:=s1.set (i:=i) (by simpa using hi) (j:=3) (by omega) (v:=.bool true) (p:={p with num:=p.num+1,wt:=true}) (by simp[Pr.rc]);have s3:=s2.set (i:=i) (by simpa using hi) (j:=4) (by omega) (v:=.bool false) (p:={p with num:=p.num+1,wt:=true,dt:=false}) (by simp[Pr.rc]);have s4:=s3.set (i:=i) (by simpa using hi) (j:=6) (by omega) (v:=.i s.time) (p:={p with num:=p.num+1,wt:=true,dt:=false,since:=s.time}) (by simp[Pr.rc]);have s5:=s4.set (i:=i) (by simpa using hi) (j:=7) (by omega) (v:=.i wait) (p:=p.asked s.time wait) (by simp[Pr.rc,Pr.asked]);simp only[List.set_set]at s5;rw[<-kJ];refine⟨s5,⟨?_,λk hk=>Or.inl hk⟩⟩;exact(((((f0.mono (by simp)).setCell _ (Or.inl (by simp))).setCell _ (Or.inl (by simp))).setCell _ (Or.inl (by simp))).setCell _ (Or.inl (by simp))).setCell _ (Or.inl (by simp))
 have v5:W5.cell? (Ad pb (i*9+5))=some (.i (p.num+1)):=by have hi:=HH.o.2.1;have h9:=H5.o.1.aR (i:=i) (by show i<(s.ps.set i _).length;rw[eR];exact hi) (j:=5) (by omega);rw[h9];simp[Sc.aX,Pr.asked,Pr.rc]
 have QB:Hid (W5.heap[bx]?=some (.cells #[.i 0,.t ⟨#[]⟩] 186 (0,0))∧w.heap.size=bx):=by refine⟨?_,hbx⟩;rw[<-kJ,de _ _ _ _ hnp,de _ _ _ _ hnp,de _ _ _ _ hnp,de _ _ _ _ hnp,de _ _ _ _ hnp,<-hw0,<-hbx];exact di w _
 have HB1:Hid (∀W,Rc 58 #[.i i,.i 1] W (.t ⟨#[eH (i:Int)]⟩) λw'=>Fr [] W w'):=λW=>by have h9:=bP i 1 W (by omega) (by omega);rw[Ak]at h9;exact h9
 have Gz:Hid (∀W,Rc 58 #[.i (p.num+1),.i 4] W (.t (n4 (p.num+1)).ba) λw'=>Fr [] W w'):=λW=>by have h9:=bP k 4 W (by have:=Zg.o;omega) (by omega);rw[Al]at h9;rw[Zg.o];exact h9
 have uI:Hid ((⟨#[65]⟩++⟨#[eH (i:Int)]⟩++(n4 (p.num+1)).ba:cC)=bU (aW 65 i (p.num+1))):=by show _=_;rw[<-lJ];congr 1
 go_enter Tryz.func93,Tryz.ntmps93;go_wp2;try rw[kJ]
 clear c10 c11 d3 d4 d5 d6 d7 z3 z4 z5 z6 z7 y0 y1 hw0 kJ;go_region_held (λw'=>w'.cell? ⟨pb,i*9+5,none⟩=some (.int .i64 (p.num+1)))
  (first
    |go_keep
    |(rw[du (f6.block pb (dm _ (Ad pb (i*9+5)) (by assumption)) (by simp))];assumption)
    |(rw[du (f7.block pb (dm _ (Ad pb (i*9+5)) (by assumption)) (by simp))];assumption))
  (first
    |(go_at_call_of 58 (Value.int .i64 4);refine(Gz.o _).mono ?_;rintro e w7 ⟨rfl,f7⟩;have G7:Fr [] W5 w7:=(by first|exact f6.tr f7|exact(((Fr.refl [] W5).drew).tr f6).tr f7);have n7:=(G7.block bx (cY.1 QB.o.1).1 (by simp)).trans QB.o.1;have H7:=Hj2 G7 n7;have r0:cE w7 bx 0 0:=(ce n7 rfl);have r1:cD w7 bx 1 (.t ⟨#[]⟩):=(ce n7 rfl);have u0:w7.frozen? (Ad bx 0)=false:=ay n7 _;have u1:w7.frozen? (Ad bx 1)=false:=ay n7 _;clear G7 n7)
    |(go_at_call_of 58 (Value.int .i64 1);refine(HB1.o _).mono ?_;rintro e w6 ⟨rfl,f6⟩))
 go_wp2;refine ez (v:=.agg #[.i i,.t (bU (aW 65 i (p.num+1)))]) ?_ rfl ⟨rfl,?_,?_⟩
 .rw[<-uI.o];simp[results,Tryz.results93,go_sem];go_simp
 .obtain⟨f7,n7⟩:=H7.o;have h7:=H5.o.1.same f7;obtain⟨t1,t2,t3,_⟩:=Wz.o;exact h7.mG ((fR.setCell _ (Or.inl (by simp))).setCell _ (Or.inl (by simp))) t1 (Ne.symm t2) (Ne.symm t3) n7 (by decide)
 have g7:=H5.o.2.trans (Gw.of H7.o.1);exact⟨(g7.1.setCell _ (Or.inr Wz.o.2.2.2)).setCell _ (Or.inr Wz.o.2.2.2),g7.2⟩
end
def vQ(r:ak):Int:=r.sh.foldl (λm x=>max m x.time) 0
section
variable {B xb pb b RB:Nat}{ra:Option Addr}{rc:Nat}{w w':World}{F F' L:List Nat}{s:Sc}{n n':Nat}{r r':ak}{O:gq}
theorem dK.Fz{st:aK}{q:Nat}(m:dK st r q):Fz st.ss=vQ r:=by
 have h1:∀l:List Sn,YtjceeemlilnplaaGreatDoor.Fz l=(l.map t3).foldl (λm x=>max m x.2.1) 0:=λl=>by unfold YtjceeemlilnplaaGreatDoor.Fz;rw[List.foldl_map];rfl
 have h2:vQ r=(r.sh.map r3).foldl (λm x=>max m x.2.1) 0:=by unfold vQ;rw[List.foldl_map];rfl
 rw[h1,h2,m.ss]
theorem Av(h:Sk B w b F r n){kb:Nat}{last:Int}{rv:Value}(hk:Vw w kb b last rv):Rc 144 #[.p kb] w (.i (vQ r)) λw'=>Sk B w' b F r n∧Gw F F w w':=by obtain⟨⟨st,rp,m,rfl⟩,ho⟩:=h;refine(vR B b kb st last rv w rp m.len.1 hk).mono ?_;rintro e w' ⟨rfl,rp',f⟩;exact⟨by rw[m.Fz],⟨⟨st,rp',m,rfl⟩,ho⟩,f,λk hk=>Or.inl hk⟩
theorem GK{v:Value}(c0:w.cell? (Ad xb 0)=some v):Rc 11 #[.p xb] w v λw'=>w'=w:=by go_enter Tryz.func11,Tryz.ntmps11;go_wp2;go_ret;exact⟨rfl,rfl⟩
theorem GL{v:Value}(c0:w.cell? (Ad xb 0)=some v):Rc 14 #[.p xb] w v λw'=>w'=w:=by go_enter Tryz.func14,Tryz.ntmps14;go_wp2;go_ret;exact⟨rfl,rfl⟩
end
def Pr.dQ(p:Pr)(d:Bool)(t sec:Int):Pr:={p with num:=p.num+1,wt:=true,dt:=d,since:=t,wait:=sec}
section
variable {B xb pb b RB:Nat}{ra:Option Addr}{rc:Nat}{w w':World}{F F' L:List Nat}{s:Sc}{n n':Nat}{r r':ak}{O:gq}
theorem Gy(h:SP B xb pb b RB ra rc w F s n){i:Nat}(hi:i<s.ps.length)(d:Bool)(kk:Int)(hkk:kk=if d then 68 else 65)(st T:cC)(sec:Int)(jM:0≤(s.pr i).num∧(s.pr i).num≤4000000000)(uf:0≤sec∧sec≤1000000)(hti:0≤s.time∧s.time≤1073741824)
 (htx:∀W,Rc 104 #[.agg #[.u kk,.i i,.i ((s.pr i).num+1),.t st,.i 0]] W (.t T) λw'=>Fr [] W w'):
 Rc 137 #[.p xb,.i i,.agg #[.u kk,.i 0,.i 0,.t st,.i 0],.i sec] w (.agg #[.i i,.t T]) λw'=>SP B xb pb b RB ra rc w' F (s.aX i ((s.pr i).dQ d s.time sec)) n∧Gw ([xb,pb]++F) ([xb,pb]++F) w w':=by
 obtain⟨p,hp⟩:=eX (s.pr i);rw[hp]at jM htx⊢;have hpi:s.ps[i]=p:=by rw[<-Sc.dn hi];exact hp
 have HT:=Hd htx;obtain⟨m,hm⟩:=eX s.ps.length;obtain⟨ti,hte⟩:=eX s.time;rw[hte]at hti⊢;obtain⟨w0,hw0⟩:=eX (w.alloc (.cells #[.u kk,.i 0,.i 0,.t st,.i 0] 192));obtain⟨bx,hbx⟩:=eX w.heap.size;obtain⟨w1,hw1⟩:=eX (w0.alloc (.cells #[.i 0,.t ⟨#[]⟩] 186));obtain⟨rb,hrb⟩:=eX w0.heap.size;have F0:Fr [] w w1:=by rw[<-hw1,<-hw0];exact(fR.alloc _).alloc _
 have S0:=h.same F0;have Xn:w0.heap[bx]?=some (.cells #[.u kk,.i 0,.i 0,.t st,.i 0] 192 (0,0)):=by rw[<-hw0,<-hbx];exact di w _
 have TA:=(cY.1 Xn).1;have n0:w1.heap[bx]?=some (.cells #[.u kk,.i 0,.i 0,.t st,.i 0] 192 (0,0)):=by rw[<-hw1,ei _ _ _ TA];exact Xn
 have n1:w1.heap[rb]?=some (.cells #[.i 0,.t ⟨#[]⟩] 186 (0,0)):=by rw[<-hw1,<-hrb];exact di w0 _
 have c7:w1.cell? (Ad xb 7)=some (.slice (some (Ad pb 0)) m m):=by rw[cell_of S0.blk.2,<-hm];rfl
 have c6:w1.cell? (Ad xb 6)=some (.i ti):=by rw[cell_of S0.blk.2,<-hte];rfl
 have p3:w1.cell? (Ad pb (i*7+3))=some (.i p.num):=by rw[<-hpi];exact S0.aR hi (j:=3) (by omega)
 have p4:w1.cell? (Ad pb (i*7+4))=some (.u p.aw):=by rw[<-hpi];exact S0.aR hi (j:=4) (by omega)
 have p5:w1.cell? (Ad pb (i*7+5))=some (.i (p.since+p.wait)):=by rw[<-hpi];exact S0.aR hi (j:=5) (by omega)
 obtain⟨aw0,TB⟩:=eX p.aw;obtain⟨ZH,TD⟩:=eX (p.since+p.wait);rw[TB]at p4;rw[TD]at p5;have z3:w1.frozen? (Ad pb (i*7+3))=false:=ay S0.pr.2 _;have z4:w1.frozen? (Ad pb (i*7+4))=false:=ay S0.pr.2 _;have z5:w1.frozen? (Ad pb (i*7+5))=false:=ay S0.pr.2 _;have q0:cD w1 bx 0 (.u kk):=ce n0 rfl;have q1:cE w1 bx 1 0:=ce n0 rfl;have q2:cE w1 bx 2 0:=ce n0 rfl;have q3:cD w1 bx 3 (.t st):=ce n0 rfl;have q4:cE w1 bx 4 0:=ce n0 rfl;have y1:w1.frozen? (Ad bx 1)=false:=ay n0 _;have y2:w1.frozen? (Ad bx 2)=false:=ay n0 _;have lp:=h.pr.lt;have lx:=h.blk.lt;have hne:bx≠pb:=by omega
 have hne2:pb≠bx:=by omega
 have hxp:xb≠pb:=h.ne;have hxb:xb≠bx:=by omega
 have MI:rb≠pb:=by omega
 have hrx:rb≠bx:=by omega
 have hltz:(i:Int)<(m:Int):=by omega
 have H0:Hid (SP B xb pb b RB ra rc w1 F s n∧w1.heap[bx]?=some (.cells #[.u kk,.i 0,.i 0,.t st,.i 0] 192 (0,0))∧w1.heap[rb]?=some (.cells #[.i 0,.t ⟨#[]⟩] 186 (0,0))∧Fr [] w w1∧w.heap.size≤bx∧w.heap.size≤rb∧(bx∉F∧rb∉F∧xb≠rb)∧i<s.ps.length∧(∀hi:i<s.ps.length,s.ps[i]=p)∧s.time=ti∧kk=(if d then 68 else 65)):=⟨S0,n0,n1,F0,by omega,by omega,⟨h.sk.new (by omega),h.sk.new (by omega),by omega⟩,hi,λ_=>hpi,hte,hkk⟩;have hn1:=jM.1;have hn2:=jM.2;have hs1:=uf.1;have hs2:=uf.2;have ht1:=hti.1;have ht2:=hti.2;clear h htx jM uf hti S0 n0 Xn n1 F0 hi hp hpi hm hte TA TB TD lp lx hkk;go_enter Tryz.func137,Tryz.ntmps137;go_wp2;obtain⟨W2,hW2⟩:=eX (((w1.setCell (Ad pb (i*7+3)) (.i (p.num+1))).setCell (Ad pb (i*7+4)) (.u kk)).setCell (Ad pb (i*7+5)) (.i (ti+sec)));have H2:Hid (SP B xb pb b RB ra rc W2 F (s.aX i (p.dQ d ti sec)) n∧W2.heap[bx]?=some (.cells #[.u kk,.i 0,.i 0,.t st,.i 0] 192 (0,0))∧W2.heap[rb]?=some (.cells #[.i 0,.t ⟨#[]⟩] 186 (0,0))∧Gw ([xb,pb]++F) ([xb,pb]++F) w W2):=by
  obtain⟨s0,b0,b1,f0,_,_,_,hi,hpi,hte,hkk⟩:=H0.o;have hpi:=hpi hi;refine⟨?_,?_,?_,?_⟩
  .have s1:=s0.set (i:=i) hi (j:=3) (by omega) (v:=.i (p.num+1)) (p:={p with num:=p.num+1}) (by rw[hpi];rfl);have s2:=s1.set (i:=i) (by simpa using hi) (j:=4) (by omega) (v:=.u kk) (p:={p with num:=p.num+1,wt:=true,dt:=d}) (by rw[hkk];cases d<;>simp[Pr.pc,Pr.aw]);have s3:=s2.set (i:=i) (by simpa using hi) (j:=5) (by omega) (v:=.i (ti+sec)) (p:=p.dQ d ti sec) (by cases d<;>simp[Pr.pc,Pr.aw,Pr.dQ]);simp only[List.set_set]at s3;rw[<-hW2];exact s3
  .rw[<-hW2,de _ _ _ _ hne,de _ _ _ _ hne,de _ _ _ _ hne];exact b0
  .rw[<-hW2,de _ _ _ _ MI,de _ _ _ _ MI,de _ _ _ _ MI];exact b1
  rw[<-hW2];exact⟨(((f0.mono (by simp)).setCell _ (Or.inl (by simp))).setCell _ (Or.inl (by simp))).setCell _ (Or.inl (by simp)),λ_ hk=>Or.inl hk⟩
 have e3:W2.cell? (Ad pb (i*7+3))=some (.i (p.num+1)):=by have hi:=H0.o.2.2.2.2.2.2.2.1;have h9:=H2.o.1.aR (i:=i) (by show i<(s.ps.set i _).length;rw[eR];exact hi) (j:=3) (by omega);rw[h9];simp[Sc.aX,Pr.dQ,Pr.pc]
 rw[hW2];clear hW2 p3 p4 p5 z3 z4 z5 q0 q1 q2 q3 q4 y1 y2 c6 c7 hw1 hw0 hbx hrb;have q0:cD W2 bx 0 (.u kk):=ce H2.o.2.1 rfl;have q1:cE W2 bx 1 0:=ce H2.o.2.1 rfl;have q2:cE W2 bx 2 0:=ce H2.o.2.1 rfl;have q3:cD W2 bx 3 (.t st):=ce H2.o.2.1 rfl;have q4:cE W2 bx 4 0:=ce H2.o.2.1 rfl;have y1:W2.frozen? (Ad bx 1)=false:=ay H2.o.2.1 _;have y2:W2.frozen? (Ad bx 2)=false:=ay H2.o.2.1 _;have hbp:pb≠bx:=hne2;have H3:Hid (∀X,X=(W2.setCell (Ad bx 1) (.i i)).setCell (Ad bx 2) (.i (p.num+1))->SP B xb pb b RB ra rc X F (s.aX i (p.dQ d ti sec)) n∧X.heap[rb]?=some (.cells #[.i 0,.t ⟨#[]⟩] 186 (0,0))∧Gw ([xb,pb]++F) ([xb,pb]++F) w X):=by rintro X rfl;obtain⟨g1,g2,g3,g4⟩:=H2.o;have hB:=H0.o.2.2.2.2.1;refine⟨g1.mG ((fR.setCell _ (Or.inl (by simp))).setCell _ (Or.inl (by simp))) H0.o.2.2.2.2.2.2.1.1 hxb hbp g2 (by decide),?_,⟨(g4.1.setCell _ (Or.inr hB)).setCell _ (Or.inr hB),g4.2⟩⟩;rw[de _ _ _ _ hrx,de _ _ _ _ hrx];exact g3
 go_region;go_wp2_with (first
  |(go_at_call 104;refine(HT.o _).mono ?_;rintro e w4 ⟨rfl,f4⟩;have f5:Fr [] ((W2.setCell (Ad bx 1) (.i i)).setCell (Ad bx 2) (.i (p.num+1))) w4:=(fR.drew).trans f4 (by simp);obtain⟨g1,g2,g3⟩:=H3.o _ rfl;have n4:w4.heap[rb]?=some (.cells #[.i 0,.t ⟨#[]⟩] 186 (0,0)):=by rw[f5.block rb (cY.1 g2).1 (by simp)];exact g2
    have H4:=Hj3 (g1.same f5) n4 (g3.trans (Gw.of f5));have r0:cE w4 rb 0 0:=ce n4 rfl;have r1:cD w4 rb 1 (.t ⟨#[]⟩):=ce n4 rfl;have u0:w4.frozen? (Ad rb 0)=false:=ay n4 _;have u1:w4.frozen? (Ad rb 1)=false:=ay n4 _;clear f4 f5 g1 g2 g3 n4))
 refine ez (v:=.agg #[.i i,.t T]) ?_ rfl ⟨rfl,?_,?_⟩
 .simp[results,Tryz.results137,go_sem];go_simp
 .obtain⟨_,_,_,_,_,_,⟨_,t2,t3⟩,_⟩:=H0.o;exact H4.o.1.mG ((fR.setCell _ (Or.inl (by simp))).setCell _ (Or.inl (by simp))) t2 t3 (Ne.symm MI) H4.o.2.1 (by decide)
 have hB:=H0.o.2.2.2.2.2.1;exact⟨(H4.o.2.2.1.setCell _ (Or.inr hB)).setCell _ (Or.inr hB),H4.o.2.2.2⟩
end
def Pr.tr2(p:Pr):Nat:=if p.wt then(p.tries+1).toNat else 0
def mP(s:Sc)(i:Nat):Sc:=s.aX i (({s.pr i with tries:=(s.pr i).tr2}:Pr).dQ false s.time (gN s.wait s.cap (s.pr i).tr2))
section
variable {B xb pb b RB:Nat}{ra:Option Addr}{rc:Nat}{w w':World}{F F' L:List Nat}{s:Sc}{n n':Nat}{r r':ak}{O:gq}
theorem fG.at(ho:fG s){i:Nat}(hi:i<s.ps.length):(0≤(s.pr i).num∧(s.pr i).num≤4000000000)∧(0≤(s.pr i).since∧(s.pr i).since≤s.time)∧(0≤(s.pr i).wait∧(s.pr i).wait≤1000)∧0≤(s.pr i).tries∧(s.pr i).tries≤s.time:=by rw[Sc.dn hi];exact ho.pr _ (eE hi)
theorem SA(h:SP B xb pb b RB ra rc w F s n)(ho:fG s){i:Nat}(hi:i<s.ps.length):
 Rc 90 #[.p xb,.i i] w (.agg #[.i i,.t (bU (aW 65 i ((s.pr i).num+1)))]) λw'=>SP B xb pb b RB ra rc w' F (mP s i) n∧Gw ([xb,pb]++F) ([xb,pb]++F) w w':=by
 obtain⟨jM,_,_,htr⟩:=ho.at hi;have hti:=ho.time;have hpa:=qy ⟨ho.wait.1,ho.wait.2.1⟩;have hcap:=ho.wait.2.2;obtain⟨p,hp⟩:=eX (s.pr i);have hpi:s.ps[i]=p:=by rw[<-Sc.dn hi];exact hp
 obtain⟨m,hm⟩:=eX s.ps.length;obtain⟨k,hk⟩:=eX p.tr2;unfold mP;rw[hp]at jM htr⊢;rw[hk];have Wy:k≤1100000000:=by rw[<-hk];unfold Pr.tr2;split<;>omega
 obtain⟨w1,hw1⟩:=eX (w.alloc (.cells #[.i 0,.t ⟨#[]⟩] 186));obtain⟨rb,hrb⟩:=eX w.heap.size;have F0:Fr [] w w1:=by rw[<-hw1];exact fR.alloc _
 have S0:=h.same F0;have n1:w1.heap[rb]?=some (.cells #[.i 0,.t ⟨#[]⟩] 186 (0,0)):=by rw[<-hw1,<-hrb];exact di w _
 have c7:w1.cell? (Ad xb 7)=some (.slice (some (Ad pb 0)) m m):=by rw[cell_of S0.blk.2,<-hm];rfl
 have p4:w1.cell? (Ad pb (i*7+4))=some (.u p.aw):=by rw[<-hpi];exact S0.aR hi (j:=4) (by omega)
 have p6:w1.cell? (Ad pb (i*7+6))=some (.i p.tries):=by rw[<-hpi];exact S0.aR hi (j:=6) (by omega)
 have z6:w1.frozen? (Ad pb (i*7+6))=false:=ay S0.pr.2 _;have lp:=h.pr.lt;have lx:=h.blk.lt;have MI:rb≠pb:=by omega
 obtain⟨W2,hW2⟩:=eX (w1.setCell (Ad pb (i*7+6)) (.i k));have H2:Hid (SP B xb pb b RB ra rc W2 F (s.aX i {p with tries:=k}) n∧W2.heap[rb]?=some (.cells #[.i 0,.t ⟨#[]⟩] 186 (0,0))∧Gw ([xb,pb]++F) ([xb,pb]++F) w W2∧w.heap.size≤rb∧rb∉F∧xb≠rb∧pb≠rb):=by
  refine⟨?_,?_,?_,by omega,h.sk.new (by omega),by omega,by omega⟩
  .rw[<-hW2];exact S0.set (i:=i) hi (j:=6) (by omega) (v:=.i k) (p:={p with tries:=k}) (by rw[hpi];rfl)
  .rw[<-hW2,de _ _ _ _ MI];exact n1
  rw[<-hW2];exact(Gw.of F0).trans (Gw.put (by simp) _)
 have hi2:i<(s.aX i {p with tries:=(k:Int)}).ps.length:=by show i<(s.ps.set i _).length;rw[eR];exact hi
 have e2:(s.aX i {p with tries:=(k:Int)}).pr i={p with tries:=(k:Int)}:=by rw[Sc.dn hi2];simp[Sc.aX]
 obtain⟨sec,uf⟩:=eX (gN s.wait s.cap k);have D7:0≤sec∧sec≤1000000:=by have:=hpa k;rw[uf]at this;omega
 have ho2:fG (s.aX i {p with tries:=(k:Int)})->True:=λ_=>trivial;have Oa:Hid (∀W,SP B xb pb b RB ra rc W F (s.aX i {p with tries:=(k:Int)}) n->Rc 138 #[.p xb,.i k] W (.i sec) λw'=>Fr [] W w'):=λW hW=>by rw[<-uf];exact Aj hW ho.wait k Wy
 have Gx:Hid (∀W,SP B xb pb b RB ra rc W F (s.aX i {p with tries:=(k:Int)}) n->Rc 137 #[.p xb,.i i,.agg #[.u 65,.i 0,.i 0,.t ⟨#[]⟩,.i 0],.i sec] W (.agg #[.i i,.t (bU (aW 65 i (p.num+1)))]) λw'=>SP B xb pb b RB ra rc w' F (s.aX i (({p with tries:=(k:Int)}:Pr).dQ false s.time sec)) n∧Gw ([xb,pb]++F) ([xb,pb]++F) W w'):=λW hW=>by
  have h9:=Gy hW hi2 false 65 rfl ⟨#[]⟩ (bU (aW 65 i (p.num+1))) sec (by rw[e2];exact jM) D7 hti (by rw[e2];exactλW'=>Gm 65 i (p.num+1) ⟨#[]⟩ 0 W' rfl rfl rfl);rw[e2]at h9;have e3:∀q:Pr,(s.aX i {p with tries:=(k:Int)}).aX i q=s.aX i q:=λq=>by simp[Sc.aX]
  rw[e3]at h9;exact h9
 have e6:W2.cell? (Ad pb (i*7+6))=some (.i k):=by have h9:=H2.o.1.aR (i:=i) hi2 (j:=6) (by omega);rw[h9];simp[Sc.aX,Pr.pc]
 have hltz:(i:Int)<(m:Int):=by omega
 obtain⟨T,hT⟩:=eX (bU (aW 65 i (p.num+1)));rw[uf];rw[hT]at Gx⊢;have ht1:=htr.1;have ht2:=htr.2;have aal:=hti.2;clear h ho jM htr hti hpa S0 n1 F0 hi hp hpi hm hi2 e2 hT uf ho2 lp lx hcap;obtain⟨aw,haw⟩:=eX p.aw;have HA:=Hd haw;rw[haw]at p4;by_cases ha:aw=0
 .subst ha;have hk0:k=0:=by rw[<-hk];unfold Pr.tr2;rw[p.Cc.1 haw];rfl
  subst hk0;clear haw hk;have hc:((0:Nat):Int)=0:=rfl;simp only[hc]at Oa Gx H2 hW2 e6⊢;clear hc;go_enter Tryz.func90,Tryz.ntmps90;go_wp2_with (first
   |(go_at_call 137;refine(Gx.o _ H3.o.1).mono ?_;rintro e w4 ⟨rfl,k4,g4⟩;have n4:w4.heap[rb]?=some (.cells #[.i 0,.t ⟨#[]⟩] 186 (0,0)):=by rw[g4.1.block rb (cY.1 H3.o.2.2).1 (by simp;exact⟨Ne.symm H2.o.2.2.2.2.2.1,MI,H2.o.2.2.2.2.1⟩)];exact H3.o.2.2
     have H4:=Hj3 k4 n4 (H3.o.2.1.trans g4);have r0:cE w4 rb 0 0:=ce n4 rfl;have r1:cD w4 rb 1 (.t ⟨#[]⟩):=ce n4 rfl;have u0:w4.frozen? (Ad rb 0)=false:=ay n4 _;have u1:w4.frozen? (Ad rb 1)=false:=ay n4 _;clear k4 n4 g4)
   |(go_at_call 138;refine(Oa.o _ H2.o.1).mono ?_;rintro e w3 ⟨rfl,f3⟩;have H3:Hid (SP B xb pb b RB ra rc w3 F (s.aX i {p with tries:=0}) n∧Gw ([xb,pb]++F) ([xb,pb]++F) w w3∧w3.heap[rb]?=some (.cells #[.i 0,.t ⟨#[]⟩] 186 (0,0))):=⟨H2.o.1.same f3,H2.o.2.2.1.trans (Gw.of f3),by rw[f3.block rb (cY.1 H2.o.2.1).1 (by simp)];exact H2.o.2.1⟩;clear f3))
  refine ez (v:=.agg #[.i i,.t T]) ?_ rfl ⟨rfl,?_,?_⟩
  .simp[results,Tryz.results90,go_sem];go_simp
  .exact H4.o.1.mG ((fR.setCell _ (Or.inl (by simp))).setCell _ (Or.inl (by simp))) H2.o.2.2.2.2.1 H2.o.2.2.2.2.2.1 H2.o.2.2.2.2.2.2 H4.o.2.1 (by decide)
  have hB:=H2.o.2.2.2.1;exact⟨(H4.o.2.2.1.setCell _ (Or.inr hB)).setCell _ (Or.inr hB),H4.o.2.2.2⟩
 have hae:(aw==0)=false:=by simpa using ha
 have haz:(aw != 0)=true:=by simpa using ha
 have hk0:p.tries+1=(k:Int):=by
  rw[<-hk];unfold Pr.tr2;have:p.wt=true:=by
   cases e:p.wt
   .rw[p.Cc.2 e]at haw;exact absurd haw.symm ha
   rfl
  rw[this,if_pos rfl];omega
 clear haw hk;go_enter Tryz.func90,Tryz.ntmps90;go_wp2_with (first
  |(go_at_call 137;refine(Gx.o _ H3.o.1).mono ?_;rintro e w4 ⟨rfl,k4,g4⟩;have n4:w4.heap[rb]?=some (.cells #[.i 0,.t ⟨#[]⟩] 186 (0,0)):=by rw[g4.1.block rb (cY.1 H3.o.2.2).1 (by simp;exact⟨Ne.symm H2.o.2.2.2.2.2.1,MI,H2.o.2.2.2.2.1⟩)];exact H3.o.2.2
    have H4:=Hj3 k4 n4 (H3.o.2.1.trans g4);have r0:cE w4 rb 0 0:=ce n4 rfl;have r1:cD w4 rb 1 (.t ⟨#[]⟩):=ce n4 rfl;have u0:w4.frozen? (Ad rb 0)=false:=ay n4 _;have u1:w4.frozen? (Ad rb 1)=false:=ay n4 _;clear k4 n4 g4)
  |(go_at_call 138;refine(Oa.o _ H2.o.1).mono ?_;rintro e w3 ⟨rfl,f3⟩;have H3:Hid (SP B xb pb b RB ra rc w3 F (s.aX i {p with tries:=(k:Int)}) n∧Gw ([xb,pb]++F) ([xb,pb]++F) w w3∧w3.heap[rb]?=some (.cells #[.i 0,.t ⟨#[]⟩] 186 (0,0))):=⟨H2.o.1.same f3,H2.o.2.2.1.trans (Gw.of f3),by rw[f3.block rb (cY.1 H2.o.2.1).1 (by simp)];exact H2.o.2.1⟩;clear f3))
 refine ez (v:=.agg #[.i i,.t T]) ?_ rfl ⟨rfl,?_,?_⟩
 .simp[results,Tryz.results90,go_sem];go_simp
 .exact H4.o.1.mG ((fR.setCell _ (Or.inl (by simp))).setCell _ (Or.inl (by simp))) H2.o.2.2.2.2.1 H2.o.2.2.2.2.2.1 H2.o.2.2.2.2.2.2 H4.o.2.1 (by decide)
 have hB:=H2.o.2.2.2.1;exact⟨(H4.o.2.2.1.setCell _ (Or.inr hB)).setCell _ (Or.inr hB),H4.o.2.2.2⟩
end
def oV(r:ak)(g:Int):Bool:=(r.sh.any λx=>x.au==g)||(r.ms.any λx=>x.1==g)
section
variable {B xb pb b RB:Nat}{ra:Option Addr}{rc:Nat}{w w':World}{F F' L:List Nat}{s:Sc}{n n':Nat}{r r':ak}{O:gq}
theorem SX(h:SP B xb pb b RB ra rc w F s n)(g:Int):
 Rc 140 #[.p xb,.i g] w (.bool (oV s.r g)) λw'=>SP B xb pb b RB ra rc w' F s n∧Gw F F w w':=by
 obtain⟨w1,hw1⟩:=eX (w.alloc (.cells #[.i g] 3));obtain⟨gb,hgb⟩:=eX w.heap.size;have n1:w1.heap[gb]?=some (.cells #[.i g] 3 (0,0)):=by rw[<-hw1,<-hgb];exact di w _
 have f1:Fr [] w w1:=by rw[<-hw1];exact fR.alloc _
 obtain⟨hl,hm,_⟩:=h.sk.2.len;obtain⟨Q,hQ⟩:∃Q:World->Prop,Q=λW=>SP B xb pb b RB ra rc W F s n∧Gw F F w W∧Bk F W gb (.cells #[.i g] 3 (0,0)):=⟨_,rfl⟩;have q1:Q w1:=by rw[hQ];exact⟨h.same f1,Gw.of f1,h.sk.new (by omega),n1⟩
 have HF:Hid (∀W W',Q W->Fr [] W W'->Q W'):=λW W'=>by
  rw[hQ]
  exactλ⟨a,b,c⟩f=>⟨a.same f,b.trans (Gw.of f),c.same f⟩
 have HC:Hid (∀W,Q W->W.cell? (Ad xb 0)=some (.p b)∧W.cell? (Ad gb 0)=some (.i g)):=λW=>by
  rw[hQ]
  exactλ⟨a,_,c⟩=>⟨ce a.blk.2 rfl,ce c.2 rfl⟩
 have HE:Hid (∀W,Q W->SP B xb pb b RB ra rc W F s n∧Gw F F w W):=λW=>by
  rw[hQ]
  exactλ⟨a,b,_⟩=>⟨a,b⟩
 have HS:Hid (∀W,Q W->Cl 21 #[.p b] W λe w'=>∃gg,e=.returned (.slice (some (Ad gg 0)) s.r.sh.length s.r.sh.length)∧Q w'∧w'.heap[gg]?=some (.cells (dL (s.r.sh.map r3)).toArray 84 (0,0))):=λW=>by rw[hQ];rintro⟨a,b,c⟩;refine(qC a.sk).mono ?_;rintro e w' ⟨gg,rfl,hgg,hb,k,g'⟩;exact⟨gg,rfl,⟨a.step k g',b.trans g',c.step g'⟩,hb.2⟩
 have HM:Hid (∀W,Q W->Cl 25 #[.p b] W λe w'=>∃gg,e=.returned (.slice (some (Ad gg 0)) s.r.ms.length s.r.ms.length)∧Q w'∧w'.heap[gg]?=some (.cells (bV (s.r.ms.map Prod.fst)).toArray 3 (0,0))):=λW=>by rw[hQ];rintro⟨a,b,c⟩;refine(Ce a.sk).mono ?_;rintro e w' ⟨gg,rfl,hgg,hb,k,g'⟩;exact⟨gg,rfl,⟨a.step k g',b.trans g',c.step g'⟩,hb.2⟩
 have hA:((s.r.sh.map r3).any λx=>x.1==g)=(s.r.sh.any λx=>x.au==g):=by rw[List.any_map];rfl
 have hBm:((s.r.ms.map Prod.fst).any λx=>g==x)=(s.r.ms.any λx=>x.1==g):=by rw[List.any_map];congr 1;funext x;simp[Function.comp,Bool.beq_comm]
 have zN:Hid (∀W gg,Q W->W.heap[gg]?=some (.cells (dL (s.r.sh.map r3)).toArray 84 (0,0))->Rc 173 #[.slice (some (Ad gg 0)) s.r.sh.length s.r.sh.length,.func (.func 172) #[] #[.p gb]] W (.bool (s.r.sh.any λx=>x.au==g)) λw'=>Q w'):=λW gg q h1=>by have h9:=xX gg s.r.sh.length (s.r.sh.map r3) g gb W h1 (by simp) (HC.o W q).2 (by simp;omega);rw[eI,hA]at h9;refine h9.mono ?_;rintro e w' ⟨rfl,f⟩;exact⟨rfl,HF.o _ _ q f⟩
 have yE:Hid (∀W gg,Q W->W.heap[gg]?=some (.cells (bV (s.r.ms.map Prod.fst)).toArray 3 (0,0))->Rc 158 #[.slice (some (Ad gg 0)) s.r.ms.length s.r.ms.length,.i g] W (.bool (s.r.ms.any λx=>x.1==g)) λw'=>Q w'):=λW gg q h1=>by have h9:=qV (some (Ad gg 0)) (s.r.ms.map Prod.fst) s.r.ms.length g W ⟨by simp,λh0=>⟨gg,0,rfl,λi hi=>by rw[cell_of h1,eV,dq];unfold bV;rw[List.getElem?_map,dp hi];rw[lD _ _ hi];rfl⟩⟩ (by simp;omega);rw[eI,hBm]at h9;refine h9.mono ?_;rintro e w' ⟨rfl,rfl⟩;exact⟨rfl,q⟩
 unfold oV;obtain⟨r1,hr1⟩:=eX (s.r.sh.any λx=>x.au==g);obtain⟨r2,hr2⟩:=eX (s.r.ms.any λx=>x.1==g);rw[hr1]at zN⊢;rw[hr2]at yE⊢;obtain⟨a,ha⟩:=eX s.r.sh.length;obtain⟨m,hmm⟩:=eX s.r.ms.length;rw[ha]at zN HS;rw[hmm]at yE HM;obtain⟨T1,hT1⟩:∃T:World->Nat->Prop,T=λW gg=>W.heap[gg]?=some (.cells (dL (s.r.sh.map r3)).toArray 84 (0,0)):=⟨_,rfl⟩;obtain⟨T2,ug⟩:∃T:World->Nat->Prop,T=λW gg=>W.heap[gg]?=some (.cells (bV (s.r.ms.map Prod.fst)).toArray 3 (0,0)):=⟨_,rfl⟩;have HS:Hid (∀W,Q W->Cl 21 #[.p b] W λe w'=>∃gg,e=.returned (.slice (some (Ad gg 0)) a a)∧Q w'∧T1 w' gg):=by rw[hT1];exact HS
 have HM:Hid (∀W,Q W->Cl 25 #[.p b] W λe w'=>∃gg,e=.returned (.slice (some (Ad gg 0)) m m)∧Q w'∧T2 w' gg):=by rw[ug];exact HM
 have zN:Hid (∀W gg,Q W->T1 W gg->Rc 173 #[.slice (some (Ad gg 0)) a a,.func (.func 172) #[] #[.p gb]] W (.bool r1) λw'=>Q w'):=by rw[hT1];exact zN
 have yE:Hid (∀W gg,Q W->T2 W gg->Rc 158 #[.slice (some (Ad gg 0)) m m,.i g] W (.bool r2) λw'=>Q w'):=by rw[ug];exact yE
 obtain⟨c0,g0⟩:=HC.o w1 q1;have H1:=Hd q1;clear h n1 f1 hr1 hr2 hA hBm hl hm ha hmm hQ q1 hT1 ug;cases r1
 .go_enter Tryz.func140,Tryz.ntmps140;go_wp2;go_region_held3 (λw'=>w'.cell? ⟨xb,0,none⟩=some (.pointer (some ⟨b,0,none⟩))∧w'.cell? ⟨gb,0,none⟩=some (.int .i64 g))
   (first
     |exact HC.o _ H5.o
     |exact HC.o _ H4.o.1
     |exact HC.o _ H3.o
     |exact HC.o _ H2.o.1
     |go_keep)
   (first
     |(go_at_call 158;refine(yE.o _ mg H4.o.1 H4.o.2).mono ?_;rintro e w5 ⟨rfl,k5⟩;have H5:=Hd k5;clear k5)
     |(go_at_call 25;refine(HM.o _ H3.o).mono ?_;rintro e w4 ⟨mg,rfl,k4⟩;have H4:=Hd k4;clear k4;obtain⟨c4,q4⟩:=HC.o _ H4.o.1)
     |(go_at_call 173;refine(zN.o _ gg H2.o.1 H2.o.2).mono ?_;rintro e w3 ⟨rfl,k3⟩;have H3:=Hd k3;clear k3;obtain⟨c3,q3⟩:=HC.o _ H3.o)
     |(go_at_call 21;refine(HS.o _ (by first|exact H1.o|exact HF.o _ _ H1.o (Fr.refl [] w1).drew)).mono ?_;rintro e w2 ⟨gg,rfl,k2⟩;have H2:=Hd k2;clear k2;obtain⟨c2,q2⟩:=HC.o _ H2.o.1))
  all_goals
   go_wp2;go_ret;first
    |exact⟨rfl,HE.o _ H5.o⟩
    |exact⟨rfl,HE.o _ H3.o⟩
 go_enter Tryz.func140,Tryz.ntmps140;go_wp2;first
  |go_region_with (first
   |(go_at_call 173;refine(zN.o _ gg H2.o.1 H2.o.2).mono ?_;rintro e w3 ⟨rfl,k3⟩;have H3:=Hd k3;clear k3)
   |(go_at_call 21;refine(HS.o _ (by first|exact H1.o|exact HF.o _ _ H1.o (Fr.refl [] w1).drew)).mono ?_;rintro e w2 ⟨gg,rfl,k2⟩;have H2:=Hd k2;clear k2;have q2:=(HC.o _ H2.o.1).2))
  |fail
 all_goals
  go_wp2;go_ret;exact⟨rfl,HE.o _ H3.o⟩
end
structure Pl where
 B:Nat
 xb:Nat
 pb:Nat
 b:Nat
 RB:Nat
 ra:Option Addr
 rc:Nat
def PG(p:Pl)(w0:World)(F0:List Nat)(s:Sc)(n:Nat)(W:World):Prop:=∃F,SP p.B p.xb p.pb p.b p.RB p.ra p.rc W F s n∧Gw ([p.xb,p.pb]++F0) ([p.xb,p.pb]++F) w0 W
def RG(p:Pl)(w0:World)(F0:List Nat)(s:Sc)(n:Nat)(W:World):Prop:=∃F,SR p.B p.xb p.pb p.b p.RB p.ra p.rc W F s n∧Gw ([p.xb,p.pb]++F0) ([p.xb,p.pb]++F) w0 W
def fU(O:gq)(s:Sc)(i:Nat)(aim:Int):Bool×Sc:=if(s.pr i).sent=0 then(if(O.hold s.r aim).1=0 then(true,{s with r:=(O.hold s.r aim).2,ps:=s.ps.set i {s.pr i with sent:=aim}})else(false,{s with r:=(O.hold s.r aim).2}))else(true,s.aX i {s.pr i with sent:=aim})
def jU(O:gq)(s:Sc)(i:Nat):Sc:=bN O (s.aX i {s.pr i with wt:=false,gave:=aI s.r}) i
section
variable {B xb pb b RB:Nat}{ra:Option Addr}{rc:Nat}{w w' w0 W W':World}{F F' F0 L:List Nat}{s:Sc}{n n':Nat}{r r':ak}{O:gq}{p:Pl}{i:Nat}
theorem PG.same(h:PG p w0 F0 s n W)(f:Fr [] W W'):PG p w0 F0 s n W':=by obtain⟨F,h,g⟩:=h;exact⟨F,h.same f,g.trans (Gw.of f)⟩
theorem RG.same(h:RG p w0 F0 s n W)(f:Fr [] W W'):RG p w0 F0 s n W':=by obtain⟨F,h,g⟩:=h;exact⟨F,h.same f,g.trans (Gw.of f)⟩
theorem PG.up(h:PG p w0 F0 s n W)(hk:n≤n'):PG p w0 F0 s n' W:=by obtain⟨F,h,g⟩:=h;exact⟨F,h.up hk,g⟩
theorem RG.up(h:RG p w0 F0 s n W)(hk:n≤n'):RG p w0 F0 s n' W:=by obtain⟨F,h,g⟩:=h;exact⟨F,h.up hk,g⟩
theorem PG.dI(h:PG ⟨B,xb,pb,b,RB,ra,rc⟩ w0 F0 s n W):W.cell? (Ad xb 0)=some (.p b)∧W.cell? (Ad xb 4)=some (.i s.wait)∧W.cell? (Ad xb 6)=some (.i s.time)∧W.cell? (Ad xb 7)=some (.slice (some (Ad pb 0)) s.ps.length s.ps.length)∧W.cell? (Ad xb 3)=some (.i s.every):=by obtain⟨F,h,g⟩:=h;exact⟨ce h.blk.2 rfl,ce h.blk.2 rfl,ce h.blk.2 rfl,ce h.blk.2 rfl,ce h.blk.2 rfl⟩
theorem RG.dI(h:RG ⟨B,xb,pb,b,RB,ra,rc⟩ w0 F0 s n W):W.cell? (Ad xb 0)=some (.p b)∧W.cell? (Ad xb 5)=some (.i s.wait)∧W.cell? (Ad xb 10)=some (.i s.time)∧W.cell? (Ad xb 11)=some (.slice (some (Ad pb 0)) s.ps.length s.ps.length)∧W.cell? (Ad xb 4)=some (.i s.every)∧W.cell? (Ad xb 6)=some (.i s.cap)∧W.cell? (Ad xb 8)=some (.i s.last)∧W.cell? (Ad xb 9)=some (.slice ra s.rs.length rc):=by obtain⟨F,h,g⟩:=h;exact⟨ce h.blk.2 rfl,ce h.blk.2 rfl,ce h.blk.2 rfl,ce h.blk.2 rfl,ce h.blk.2 rfl,ce h.blk.2 rfl,ce h.blk.2 rfl,ce h.blk.2 rfl⟩
theorem PG.aR(h:PG ⟨B,xb,pb,b,RB,ra,rc⟩ w0 F0 s n W)(hi:i<s.ps.length)(j:Nat)(hj:j<7):W.cell? (Ad pb (i*7+j))=(s.pr i).pc[j]?∧W.frozen? (Ad pb (i*7+j))=false:=by obtain⟨F,h,g⟩:=h;exact⟨by rw[Sc.dn hi];exact h.aR hi hj,ay h.pr.2 _⟩
theorem RG.aR(h:RG ⟨B,xb,pb,b,RB,ra,rc⟩ w0 F0 s n W)(hi:i<s.ps.length)(j:Nat)(hj:j<9):W.cell? (Ad pb (i*9+j))=(s.pr i).rc[j]?∧W.frozen? (Ad pb (i*9+j))=false:=by obtain⟨F,h,g⟩:=h;exact⟨by rw[Sc.dn hi];exact h.aR hi hj,ay h.pr.2 _⟩
theorem PG.set(h:PG ⟨B,xb,pb,b,RB,ra,rc⟩ w0 F0 s n W)(hi:i<s.ps.length)(j:Nat)(hj:j<7)(v:Value)(q:Pr)(hq:q.pc=(s.pr i).pc.set j v):PG ⟨B,xb,pb,b,RB,ra,rc⟩ w0 F0 (s.aX i q) n (W.setCell (Ad pb (i*7+j)) v):=by obtain⟨F,h,g⟩:=h;rw[Sc.dn hi]at hq;exact⟨F,h.set hi hj hq,g.trans (Gw.put (by simp) _)⟩
theorem RG.set(h:RG ⟨B,xb,pb,b,RB,ra,rc⟩ w0 F0 s n W)(hi:i<s.ps.length)(j:Nat)(hj:j<9)(v:Value)(q:Pr)(hq:q.rc=(s.pr i).rc.set j v):RG ⟨B,xb,pb,b,RB,ra,rc⟩ w0 F0 (s.aX i q) n (W.setCell (Ad pb (i*9+j)) v):=by obtain⟨F,h,g⟩:=h;rw[Sc.dn hi]at hq;exact⟨F,h.set hi hj hq,g.trans (Gw.put (by simp) _)⟩
theorem PG.wE(h:PG ⟨B,xb,pb,b,RB,ra,rc⟩ w0 F0 s n W)(t:Int):PG ⟨B,xb,pb,b,RB,ra,rc⟩ w0 F0 {s with time:=t} n (W.setCell (Ad xb 6) (.i t))∧W.frozen? (Ad xb 6)=false:=by obtain⟨F,h,g⟩:=h;exact⟨⟨F,h.wE t,g.trans (Gw.put (by simp) _)⟩,ay h.blk.2 _⟩
theorem RG.wE(h:RG ⟨B,xb,pb,b,RB,ra,rc⟩ w0 F0 s n W)(t:Int):RG ⟨B,xb,pb,b,RB,ra,rc⟩ w0 F0 {s with time:=t} n (W.setCell (Ad xb 10) (.i t))∧W.frozen? (Ad xb 10)=false:=by obtain⟨F,h,g⟩:=h;exact⟨⟨F,h.wE t,g.trans (Gw.put (by simp) _)⟩,ay h.blk.2 _⟩
theorem Sc.iT(hi:i<s.ps.length)(q:Pr):(s.aX i q).pr i=q:=by
 have:i<(s.aX i q).ps.length:=by show i<(s.ps.set i q).length;rw[eR];exact hi
 rw[Sc.dn this];simp[Sc.aX]
theorem Sc.iZ(q:Pr):(s.aX i q).ps.length=s.ps.length:=eR
theorem Sc.set_set(q q':Pr):(s.aX i q).aX i q'=s.aX i q':=by simp[Sc.aX]
theorem rU:(bN O s i).ps.length=s.ps.length:=by
 unfold bN;split
 .rfl
 exact eR
theorem rV{g:Int}:(bO O s i g).ps.length=s.ps.length:=by unfold bO;split<;>exact eR
theorem PG.call{f g:Nat}{args:Nat->Array Value}{v:Value}(h:PG p w0 F0 s n W)(hb:BC f g args s.r v r')(hn:n≤1000000000):Rc f (args p.b) W v λw'=>PG p w0 F0 {s with r:=r'} (n+1) w':=by obtain⟨F,h,g⟩:=h;refine(hb.u h.sk hn).mono ?_;rintro e w' ⟨he,F',k',g'⟩;exact⟨he,F',h.step k' g',g.trans (g'.lift _)⟩
theorem RG.call{f g:Nat}{args:Nat->Array Value}{v:Value}(h:RG p w0 F0 s n W)(hb:BC f g args s.r v r'):Rc g (args p.b) W v λw'=>RG p w0 F0 {s with r:=r'} (n+1) w':=by obtain⟨F,h,g⟩:=h;refine(hb.ref h.sk).mono ?_;rintro e w' ⟨he,F',k',g'⟩;exact⟨he,F',h.step k' g',g.trans (g'.lift _)⟩
theorem PG.ok(h:PG p w0 F0 s n W):Ok n s.r:=by obtain⟨F,h,g⟩:=h;exact h.sk.2
theorem RG.ok(h:RG p w0 F0 s n W):Ok n s.r:=by obtain⟨F,h,g⟩:=h;exact h.sk.2
theorem PG.newest(h:PG ⟨B,xb,pb,b,RB,ra,rc⟩ w0 F0 s n W):Rc 88 #[.p xb] W (.i (aI s.r)) λw'=>PG ⟨B,xb,pb,b,RB,ra,rc⟩ w0 F0 s n w':=by obtain⟨F,h,g⟩:=h;refine(yw (last:=s.last) (rv:=.slice ra s.rs.length rc) h.sk ⟨ce h.blk.2 rfl,ce h.blk.2 rfl,ce h.blk.2 rfl⟩).mono ?_;rintro e w' ⟨he,k',g'⟩;exact⟨he,F,h.step k' g',g.trans (g'.lift _)⟩
theorem RG.newest(h:RG ⟨B,xb,pb,b,RB,ra,rc⟩ w0 F0 s n W):Rc 92 #[.p b] W (.i (aI s.r)) λw'=>RG ⟨B,xb,pb,b,RB,ra,rc⟩ w0 F0 s n w':=by obtain⟨F,h,g⟩:=h;refine(o8 h.sk).mono ?_;rintro e w' ⟨he,f⟩;exact⟨he,F,h.same f,g.trans (Gw.of f)⟩
theorem PG.forget(hO:bE O)(h:PG ⟨B,xb,pb,b,RB,ra,rc⟩ w0 F0 s n W)(hi:i<s.ps.length)(hn:n+10≤1000000000):Rc 97 #[.p xb,.pointer (some (Ad pb (i*7)))] W (.tuple #[]) λw'=>PG ⟨B,xb,pb,b,RB,ra,rc⟩ w0 F0 (bN O s i) (n+1) w':=by obtain⟨F,h,g⟩:=h;refine(GJ hO h hi hn).mono ?_;rintro e w' ⟨he,F',k',g'⟩;exact⟨he,F',k',g.trans g'⟩
theorem RG.frees(hO:bE O)(h:RG ⟨B,xb,pb,b,RB,ra,rc⟩ w0 F0 s n W)(hi:i<s.ps.length)(hn:n+10≤1000000000):Rc 101 #[.p xb,.i i] W (.tuple #[]) λw'=>RG ⟨B,xb,pb,b,RB,ra,rc⟩ w0 F0 (bN O s i) (n+1) w':=by obtain⟨F,h,g⟩:=h;refine(KC hO h hi hn).mono ?_;rintro e w' ⟨he,F',k',g'⟩;exact⟨he,F',k',g.trans g'⟩
theorem PG.learn(hO:bE O)(h:PG ⟨B,xb,pb,b,RB,ra,rc⟩ w0 F0 s n W)(hi:i<s.ps.length)(hl:s.ps.length≤3)(z:Int)(hn:n+10≤1000000000):Rc 96 #[.p xb,.i i,.i z] W (.tuple #[]) λw'=>PG ⟨B,xb,pb,b,RB,ra,rc⟩ w0 F0 (bO O s i z) (n+2) w':=by obtain⟨F,h,g⟩:=h;refine(KS hO h hi hl z hn).mono ?_;rintro e w' ⟨he,F',k',g'⟩;exact⟨he,F',k',g.trans g'⟩
theorem RG.knows(hO:bE O)(h:RG ⟨B,xb,pb,b,RB,ra,rc⟩ w0 F0 s n W)(hi:i<s.ps.length)(hl:s.ps.length≤3)(z:Int)(hn:n+10≤1000000000):Rc 100 #[.p xb,.i i,.i z] W (.tuple #[]) λw'=>RG ⟨B,xb,pb,b,RB,ra,rc⟩ w0 F0 (bO O s i z) (n+2) w':=by obtain⟨F,h,g⟩:=h;refine(KQ hO h hi hl z hn).mono ?_;rintro e w' ⟨he,F',k',g'⟩;exact⟨he,F',k',g.trans g'⟩
theorem PG.has(h:PG ⟨B,xb,pb,b,RB,ra,rc⟩ w0 F0 s n W)(z:Int):Rc 140 #[.p xb,.i z] W (.bool (oV s.r z)) λw'=>PG ⟨B,xb,pb,b,RB,ra,rc⟩ w0 F0 s n w':=by obtain⟨F,h,g⟩:=h;refine(SX h z).mono ?_;rintro e w' ⟨he,k',g'⟩;exact⟨he,F,k',g.trans (g'.lift _)⟩
end
end Go.Proofs.YtjceeemlilnplaaGreatDoor
