import Derived.Test.YtjceeemlilnplaaGreatDoorM09
import Derived.Test.YtjceeemlilnplaaGreatDoorM03
import Derived.Laws.ResultCell
import Derived.Laws.IdiomCopy
set_option maxRecDepth 100000
set_option maxHeartbeats 12800000
set_option linter.all false
namespace Go.Proofs.YtjceeemlilnplaaGreatDoor
open Go.RowKit Go.Maps Go.MuLone
theorem fZ(z:Int)(w:World):
 Rc 199 #[.i z] w (.bool (decide (1≤z)&&decide (z≤999999999))) λw'=>w'=w:=by
 by_cases h1:1≤z
 .rw[show decide (1≤z)=true by simpa using h1];go_enter Tryz.func199,Tryz.ntmps199;go_wp2;go_ret;exact⟨by simp,rfl⟩
 rw[show decide (1≤z)=false by simpa using h1];go_enter Tryz.func199,Tryz.ntmps199;go_wp2;go_ret;exact⟨rfl,rfl⟩
def least(l:List (Int×B4)):Nat->Int
 |0=>0
 |k+1=>(l.map Prod.fst)[k]?.getD 0+1
def iD(nb:Int)(l:List (Int×B4)):Prop:=∀k(h:k<l.length),least l k≤l[k].1∧l[k].1<nb
theorem dY(l:List (Int×B4))(k:Nat)(h:k<l.length):least l (k+1)=l[k].1+1:=by simp[least,h]
theorem kK{nb:Int}{l:List (Int×B4)}(h:iD nb l):∀k,k≤l.length->0≤least l k
 |0,_=>gm _
 |k+1,hk=>by have ih:=kK h k (by omega);have:=(h k (by omega)).1;rw[dY l k (by omega)];omega
theorem jS{x:Int}(h1:-9223372036854775808≤x)(h2:x≤9223372036854775807):IntKind.i64.wrap x=x:=by simp[IntKind.wrap,IntKind.bits,IntKind.signed];omega
theorem Gs(f t m nb:Int)(l:List (Int×B4))(v:Value)(base:Nat)(w:World)(ho:w.ownsRow base 165 5 v l.length (jw l))(hl:l.length≤16)
 (hf:f=0∨(1≤f∧f≤999999999))(ht:1≤t∧t≤999999999)(hft:f≠t)(hm:0≤m∧m≤1073741824)(hnb:1≤nb∧nb≤16)(h0:f=0->(l.length:Int)=nb)(hr:iD nb l):
 Rc 162 #[.agg #[.i f,.i t,.i m,.i nb,v]] w (.bool true) λw'=>Fr [] w w':=by
 obtain⟨ao,cap,hsh⟩:=ah ho;subst hsh;obtain⟨bx,hbx⟩:=eX w.heap.size;obtain⟨n,hn⟩:=eX l.length;rw[hn]at hl h0;obtain⟨w0,hw0⟩:=eX (w.alloc (.cells #[.i f,.i t,.i m,.i nb,.slice ao n cap] 161));have b0:w0.heap[bx]?=some (.cells #[.i f,.i t,.i m,.i nb,.slice ao n cap] 161 (0,0)):=by rw[<-hw0,<-hbx];exact di w _
 have F0:Fr [] w w0:=by rw[<-hw0];exact fR.alloc _
 have e0:w0.cell? (Ad bx 0)=some (.i f):=ce b0 rfl;have e1:w0.cell? (Ad bx 1)=some (.i t):=ce b0 rfl;have e2:w0.cell? (Ad bx 2)=some (.i m):=ce b0 rfl;have e3:w0.cell? (Ad bx 3)=some (.i nb):=ce b0 rfl;have e4:w0.cell? (Ad bx 4)=some (.slice ao n cap):=ce b0 rfl;have HB:=Hj5 b0 F0 ho hn hr;have JN:Hid (∀W,Rc 199 #[.i t] W (.bool true) λw'=>w'=W):=λW=>by have:=fZ t W;rw[show(decide (1≤t)&&decide (t≤999999999))=true by simp;omega]at this;exact this
 have Vt:(f==t)=false:=by simpa using hft
 have Sj:(0:Int)≤m:=hm.1;have Sl:m≤1073741824:=hm.2;have Sm:¬nb<1:=by omega
 have Sr:¬(16:Int)<nb:=by omega
 rw[hn]at ho⊢;have dV:=hw0;clear hw0 ho b0 F0 hn hr;by_cases hf0:f=0
 .have Vu:((n:Int) != nb)=false:=by simp[h0 hf0]
  have uE:=Hd (h0 hf0);subst hf0;clear hft;go_enter Tryz.func162,Tryz.ntmps162;go_wp2_with (go_at_call 199;refine(JN.o _).mono ?_;rintro e w' ⟨rfl,hw'⟩;subst w');clear Vu h0 hf;go_loopw [5,67] (λls i wr=>∃k:Nat,k≤n∧i=.i k∧ls=.i (least l k)∧Hid (Fr [] w0 wr)) (λ_ i _=>n-(intOf i).toNat)
  case atStart=>exact⟨0,dC _,rfl,rfl,fR⟩
  obtain⟨k,hk,rfl,rfl,HK⟩:=hrel;obtain⟨W3,hW3⟩:=eY wr;subst hW3;clear e0 e1 e2 e3 e4 dV;by_cases hlt:k<n
  .have hltz:(k:Int)<(n:Int):=by omega
   have Wv:(k:Int)<nb:=by have:=uE.o;omega
   have hll:k<l.length:=by rw[HB.o.2.2.2.1];exact hlt
   have hor:=bD HB.o.2.2.1 (HB.o.2.1.tr HK.o);obtain⟨lg,qo,MG,hcc⟩:=bR hor (by omega);subst qo;have hb5:=mF l k hll;obtain⟨x,hx⟩:=eX l[k];rw[hx]at hb5;have d0:W3.cell? (Ad lg (k*5))=some (.i x.1):=by rw[hcc _ (by omega)];exact hb5.1
   have d1:W3.cell? (Ad lg (k*5+1))=some (.u (x.2.a.toNat:Int)):=by rw[hcc _ (by omega)];exact hb5.2.1
   have d2:W3.cell? (Ad lg (k*5+2))=some (.u (x.2.b.toNat:Int)):=by rw[hcc _ (by omega)];exact hb5.2.2.1
   have d3:W3.cell? (Ad lg (k*5+3))=some (.u (x.2.c.toNat:Int)):=by rw[hcc _ (by omega)];exact hb5.2.2.2.1
   have d4:W3.cell? (Ad lg (k*5+4))=some (.u (x.2.d.toNat:Int)):=by rw[hcc _ (by omega)];exact hb5.2.2.2.2
   have x3:W3.cell? (Ad bx 3)=some (.i nb):=by have hh:W3.heap[bx]?=_:=(HK.o.block bx (cY.1 HB.o.1).1 (by simp)).trans HB.o.1;rw[cell_of hh];rfl
   have lbx:bx<W3.heap.size:=dm _ _ x3;have Qy:=HB.o.2.2.2.2 k hll;rw[hx]at Qy;have hsx:least l (k+1)=x.1+1:=by rw[dY l k hll,hx]
   have NZ:0≤least l k:=kK HB.o.2.2.2.2 k (by omega);obtain⟨z,hz⟩:=eX (least l k);rw[hz]at Qy NZ;rw[hz];have r1:¬x.1<z:=by omega
   have r2:¬nb≤x.1:=by omega
   have e5:IntKind.i64.wrap (x.1+1)=x.1+1:=jS (by omega) (by omega);have Kt:=Hd hsx;clear hcc hb5 hx hor hsx hz;go_wp2;go_roundw
   case rel=>exact⟨k+1,by omega,by go_num,by rw[Kt.o],HK.o.alloc _⟩
   simp[intOf];omega
  have hkk:k=n:=by omega
  subst hkk;have hgen:¬(k:Int)<nb:=by have:=uE.o;omega
  go_wp2;go_ret;exact⟨rfl,HB.o.2.1.tr HK.o⟩
 have hfr:1≤f∧f≤999999999:=by
  rcases hf with h|h
  .exact absurd h hf0
  exact h
 have Sv:Hid (∀W,Rc 199 #[.i f] W (.bool true) λw'=>w'=W):=λW=>by have:=fZ f W;rw[show(decide (1≤f)&&decide (f≤999999999))=true by simp;omega]at this;exact this
 have Zc:(f==0)=false:=by simpa using hf0
 clear hft;go_enter Tryz.func162,Tryz.ntmps162;go_wp2_with (first
  |(go_at_call_of 199 (Value.i f);refine(Sv.o _).mono ?_;rintro e w' ⟨rfl,hw'⟩;subst w')
  |(go_at_call_of 199 (Value.i t);refine(JN.o _).mono ?_;rintro e w' ⟨rfl,hw'⟩;subst w'))
 go_loopw [5,67] (λls i wr=>∃k:Nat,k≤n∧i=.i k∧ls=.i (least l k)∧Hid (Fr [] w0 wr)) (λ_ i _=>n-(intOf i).toNat)
 case atStart=>exact⟨0,dC _,rfl,rfl,fR⟩
 obtain⟨k,hk,rfl,rfl,HK⟩:=hrel;obtain⟨W3,hW3⟩:=eY wr;subst hW3;clear e0 e1 e2 e3 e4 dV;by_cases hlt:k<n
 .have hltz:(k:Int)<(n:Int):=by omega
  have hll:k<l.length:=by rw[HB.o.2.2.2.1];exact hlt
  have hor:=bD HB.o.2.2.1 (HB.o.2.1.tr HK.o);obtain⟨lg,qo,MG,hcc⟩:=bR hor (by omega);subst qo;have hb5:=mF l k hll;obtain⟨x,hx⟩:=eX l[k];rw[hx]at hb5;have d0:W3.cell? (Ad lg (k*5))=some (.i x.1):=by rw[hcc _ (by omega)];exact hb5.1
  have d1:W3.cell? (Ad lg (k*5+1))=some (.u (x.2.a.toNat:Int)):=by rw[hcc _ (by omega)];exact hb5.2.1
  have d2:W3.cell? (Ad lg (k*5+2))=some (.u (x.2.b.toNat:Int)):=by rw[hcc _ (by omega)];exact hb5.2.2.1
  have d3:W3.cell? (Ad lg (k*5+3))=some (.u (x.2.c.toNat:Int)):=by rw[hcc _ (by omega)];exact hb5.2.2.2.1
  have d4:W3.cell? (Ad lg (k*5+4))=some (.u (x.2.d.toNat:Int)):=by rw[hcc _ (by omega)];exact hb5.2.2.2.2
  have x3:W3.cell? (Ad bx 3)=some (.i nb):=by have hh:W3.heap[bx]?=_:=(HK.o.block bx (cY.1 HB.o.1).1 (by simp)).trans HB.o.1;rw[cell_of hh];rfl
  have lbx:bx<W3.heap.size:=dm _ _ x3;have Qy:=HB.o.2.2.2.2 k hll;rw[hx]at Qy;have hsx:least l (k+1)=x.1+1:=by rw[dY l k hll,hx]
  have NZ:0≤least l k:=kK HB.o.2.2.2.2 k (by omega);obtain⟨z,hz⟩:=eX (least l k);rw[hz]at Qy NZ;rw[hz];have r1:¬x.1<z:=by omega
  have r2:¬nb≤x.1:=by omega
  have e5:IntKind.i64.wrap (x.1+1)=x.1+1:=jS (by omega) (by omega);have Kt:=Hd hsx;clear hcc hb5 hx hor hsx hz;go_wp2;go_roundw
  case rel=>exact⟨k+1,by omega,by go_num,by rw[Kt.o],HK.o.alloc _⟩
  simp[intOf];omega
 have hkk:k=n:=by omega
 subst hkk;go_wp2;go_ret;exact⟨rfl,HB.o.2.1.tr HK.o⟩
def jZ:Value:=.agg #[.i 0,.i 0,.i 0,.i 0,.slice none 0 0]
def bW(t:cC):Nat:=t.size-4
theorem uM(t:cC)(w:World)(ht:t.size≤2000000)(hc:((t.extract (bW t) t.size).toList==(kE (t.extract 0 (bW t)).data.toList).ba.toList)=false):
 Rc 125 #[.t t] w (.tuple #[jZ,.bool false]) λw'=>Fr [] w w':=by
 obtain⟨c,hcc⟩:=eX (bW t);have hcz:c≤t.size:=by rw[<-hcc];unfold bW;omega
 have hce:c=t.size-4:=by rw[<-hcc];rfl
 rw[hcc]at hc;have HC:Hid (∀W,Rc 111 #[.t (t.extract 0 c)] W (.t (kE (t.extract 0 c).data.toList).ba) λw'=>Fr [] W w'):=λW=>jF _ W (by rw[eo];omega);obtain⟨ck,hck⟩:=eX (kE (t.extract 0 c).data.toList).ba;rw[hck]at HC hc;obtain⟨n,hn⟩:=eX t.size;rw[hn]at hcz hce hc ht;have hmx:max (0:Int) (IntKind.i64.wrap ((n:Int)-4))=(c:Int):=by rw[jS (by omega) (by omega)];omega
 have hmy:max (0:Int) ((n:Int)-4)=(c:Int):=by omega
 have c0:(0:Int)≤(c:Int):=by omega
 have c1:(c:Int)≤(n:Int):=by omega
 obtain⟨w0,hw0⟩:=eX (w.alloc (.cells #[.i 0,.i 0,.i 0,.i 0,.slice none 0 0] 161));obtain⟨bx,hbx⟩:=eX w.heap.size;have b0:w0.heap[bx]?=some (.cells #[.i 0,.i 0,.i 0,.i 0,.slice none 0 0] 161 (0,0)):=by rw[<-hw0,<-hbx];exact di w _
 have HB:Hid (w0.heap[bx]?=some (.cells #[.i 0,.i 0,.i 0,.i 0,.slice none 0 0] 161 (0,0))∧Fr [] w w0∧w.heap.size=bx):=⟨b0,by rw[<-hw0];exact fR.alloc _,hbx⟩;have dV:=hw0;clear hw0 b0 hck hcc hmx hmy;by_cases h4:5≤n
 .have hnc:(n:Int)-4=(c:Int):=by omega
  have Ue:¬(c:Int)≤0:=by omega
  have Nb:(0:Int)<(c:Int):=by omega
  clear hce;go_enter Tryz.func125,Tryz.ntmps125;go_wp2;go_region_with
   (first
     |(go_at_call 111;refine(HC.o _).mono ?_;rintro e w5 ⟨rfl,f5⟩;have Uf:=((Fr.refl [] w0).drew).tr f5;have x5:=(Uf.block bx (cY.1 HB.o.1).1 (by simp)).trans HB.o.1;have y0:cE w5 bx 0 0:=(ce x5 rfl);have y1:cE w5 bx 1 0:=(ce x5 rfl);have y2:cE w5 bx 2 0:=(ce x5 rfl);have y3:cE w5 bx 3 0:=(ce x5 rfl);have y4:cD w5 bx 4 (.slice none 0 0):=(ce x5 rfl);have z0:=ay x5 0;have z1:=ay x5 1;have z2:=ay x5 2;have z3:=ay x5 3;have z4:=ay x5 4;clear x5 f5))
  all_goals
   go_wp2;refine ez (v:=.tuple #[jZ,.bool false]) ?_ rfl ⟨rfl,?_⟩
   .rw[results_cell_tmp rfl];go_simp;rfl
   have hbs:w.heap.size≤bx:=Nat.le_of_eq HB.o.2.2;exact((((((HB.o.2.1.tr Uf).setCell _ (Or.inr hbs)).setCell _ (Or.inr hbs)).setCell _ (Or.inr hbs)).setCell _ (Or.inr hbs)).setCell _ (Or.inr hbs))
 have hneg:(n:Int)-4≤0:=by omega
 have hc0:c=0:=by omega
 subst hc0;have Ug:t.extract 0 0=ByteArray.empty:=by simp
 rw[Ug]at HC;clear hce Ug;go_enter Tryz.func125,Tryz.ntmps125;go_wp2;go_region_with
  (first
    |(go_at_call 111;refine(HC.o _).mono ?_;rintro e w5 ⟨rfl,f5⟩;have Uf:=((Fr.refl [] w0).drew).tr f5;have x5:=(Uf.block bx (cY.1 HB.o.1).1 (by simp)).trans HB.o.1;have y0:cE w5 bx 0 0:=(ce x5 rfl);have y1:cE w5 bx 1 0:=(ce x5 rfl);have y2:cE w5 bx 2 0:=(ce x5 rfl);have y3:cE w5 bx 3 0:=(ce x5 rfl);have y4:cD w5 bx 4 (.slice none 0 0):=(ce x5 rfl);have z0:=ay x5 0;have z1:=ay x5 1;have z2:=ay x5 2;have z3:=ay x5 3;have z4:=ay x5 4;clear x5 f5))
 all_goals
  go_wp2;refine ez (v:=.tuple #[jZ,.bool false]) ?_ rfl ⟨rfl,?_⟩
  .rw[results_cell_tmp rfl];go_simp;rfl
  have hbs:w.heap.size≤bx:=Nat.le_of_eq HB.o.2.2;exact((((((HB.o.2.1.tr Uf).setCell _ (Or.inr hbs)).setCell _ (Or.inr hbs)).setCell _ (Or.inr hbs)).setCell _ (Or.inr hbs)).setCell _ (Or.inr hbs))
abbrev RS:=cC×Bool
def je(r:RS)(n:Nat):RS:=(oH r.1 n,wG r.1 r.2 n)
def b4(t:cC):B4:=⟨t.data.toList[0]?.getD 0,t.data.toList[1]?.getD 0,t.data.toList[2]?.getD 0,t.data.toList[3]?.getD 0⟩
def eu(r:RS):Nat->List (Int×B4)×RS
 |0=>([],r)
 |k+1=>((eu r k).1++[((bq (dU (eu r k).2.1 1).data.toList:Int),b4 (dU (je (eu r k).2 1).1 4))],je (je (eu r k).2 1) 4)
theorem CX(t:cC)(n:Nat):(dU t n).size=0∨(dU t n).size=n:=by
 unfold dU;split
 .exact Or.inl rfl
 right;rw[eo];omega
theorem nY(r:RS):∀k,(eu r k).1.length=k
 |0=>rfl
 |k+1=>by rw[eu,dE,nY r k];rfl
theorem iE{r:RS}{n:Nat}(h:(je r n).2=false):r.2=false∧r.1.size=n+(je r n).1.size:=by
 unfold je wG oH at h⊢;simp only at h⊢;by_cases hlt:r.1.size<n
 .rw[if_pos hlt]at h;cases h
 rw[if_neg hlt]at h;refine⟨h,?_⟩;rw[if_neg hlt,eo];omega
theorem uN{r:RS}:∀k,(eu r k).2.2=false->r.2=false∧r.1.size=5*k+(eu r k).2.1.size
 |0,h=>⟨h,by simp[eu]⟩
 |k+1,h=>by rw[eu]at h⊢;have h1:=iE h;have h2:=iE h1.1;have h3:=uN k h2.1;refine⟨h3.1,?_⟩;simp only;omega
theorem uO{F:List Nat}{w:World}{vb:Nat}(hv:vb∈F):∀(l:List Value)(o:Nat)(w1:World),Fr F w w1->Fr F w (w1.setCells vb o l)
 |[],_,_,h=>h
 |v::r,o,_,h=>uO hv r (o+1) _ (h.setCell v (Or.inl hv))
theorem Nf(w:World)(b8:Nat)(z:Int)(tx:cC)(h:w.heap[b8]?=some (.cells #[.i z,.u 0,.u 0,.u 0,.u 0] 165 (0,0)))(ht:tx.size=0∨tx.size=4):
 ∃w',(∀ty,(Builtin.copy_ #[134,9] ty #[.slice (some (Ad b8 1)) 4 4,.t tx]).run Tryz.prog w=.ok (goInt tx.size) w')∧w'.heap[b8]?=some (.cells (Pn (z,b4 tx)).toArray 165 (0,0))∧Fr [b8] w w':=by
 have hrun:=λty=>run_copy_string (P:=Tryz.prog) w 134 9 ty 5 b8 1 4 4 tx Tryz.underlying134 (λw=>Tryz.sizeOf5 w) (by omega) (by
  intro j hj;have hj':j<4:=by omega
  rw[cell_of h];rcases(by omega:j=0∨j=1∨j=2∨j=3)with rfl|rfl|rfl|rfl<;>rfl) (λj _=>ay h _)
 refine⟨_,hrun,?_,?_⟩
 .rcases ht with h0|h4
  .have e:tx.data.toList=[]:=by apply ie;rw[fk];exact h0
   have e3:b4 tx=⟨0,0,0,0⟩:=by unfold b4;rw[e];rfl
   rw[e,e3];exact h
  obtain⟨a,b,c,d,e⟩:∃a b c d,tx.data.toList=[a,b,c,d]:=by
   have hl:tx.data.toList.length=4:=by rw[fk];exact h4
   match hh:tx.data.toList,hl with
   |[a,b,c,d],_=>exact⟨a,b,c,d,rfl⟩
  have e3:b4 tx=⟨a,b,c,d⟩:=by unfold b4;rw[e];rfl
  rw[e,e3];have h1:=dy w b8 1 _ _ (.u (a.toNat:Int)) h;have h2:=dy _ b8 2 _ _ (.u (b.toNat:Int)) h1;have h3:=dy _ b8 3 _ _ (.u (c.toNat:Int)) h2;have h4:=dy _ b8 4 _ _ (.u (d.toNat:Int)) h3;simp only[List.map_cons,List.map_nil,World.setCells];rw[h4];rfl
 exact uO (by simp) _ _ _ fR
def z116:Obj:=.cells #[.i 0,.i 0,.i 0,.i 0,.slice none 0 0] 161 (0,0)
structure PJ(w W:World)(bx rb:Nat)(r:RS):Prop where
 rd:gQ W rb r.1 r.2
 fr:Fr [] w W
 box:W.heap[bx]?=some z116
 le:w.heap.size≤rb
 Nc:r.1.size≤2000000
theorem Po(r:RS)(n:Nat):(je r n).1.size≤r.1.size:=ze r.1 n
theorem PJ.read{w W W':World}{bx rb n:Nat}{r:RS}(h:PJ w W bx rb r)(hr:gQ W' rb (oH r.1 n) (wG r.1 r.2 n))(hf:Fr [rb] W W'):PJ w W' bx rb (je r n):=by
 have hne:bx≠rb:=λe=>by have h1:=h.box;have h2:=h.rd;unfold gQ at h2;unfold z116 at h1;rw[e,h2]at h1;simp at h1
 refine⟨hr,h.fr.trans hf (λk hk=>Or.inr (by simp at hk;subst hk;exact h.le)),?_,h.le,eJ (Po r n) h.Nc⟩;rw[hf.block bx (cY.1 h.box).1 (by simpa using hne)];exact h.box
theorem PJ.number{w W:World}{bx rb:Nat}{r:RS}(h:PJ w W bx rb r):Rc 130 #[.p rb] W (.i (bq (dU r.1 4).data.toList:Int)) λw'=>PJ w w' bx rb (je r 4)∧Fr [rb] W w':=
 (lY rb r.1 r.2 W h.rd (by have:=h.Nc;omega)).mono λ_ _⟨e,a,b⟩=>⟨e,h.read a b,b⟩
theorem PJ.byte{w W:World}{bx rb:Nat}{r:RS}(h:PJ w W bx rb r):Rc 129 #[.p rb] W (.i (bq (dU r.1 1).data.toList:Int)) λw'=>PJ w w' bx rb (je r 1)∧Fr [rb] W w':=
 (uP rb r.1 r.2 W h.rd (by have:=h.Nc;omega)).mono λ_ _⟨e,a,b⟩=>⟨e,h.read a b,b⟩
theorem PJ.text{w W:World}{bx rb:Nat}{r:RS}(h:PJ w W bx rb r):Rc 132 #[.p rb,.i 4] W (.t (dU r.1 4)) λw'=>PJ w w' bx rb (je r 4)∧Fr [rb] W w':=
 (mK rb r.1 r.2 4 W h.rd (by omega) (by have:=h.Nc;omega)).mono λ_ _⟨e,a,b⟩=>⟨e,h.read a b,b⟩
theorem PJ.alloc{w W:World}{bx rb:Nat}{r:RS}(h:PJ w W bx rb r)(o:Obj):PJ w (W.alloc o) bx rb r:=
 ⟨by have:=h.rd;unfold gQ at this⊢;rw[ei _ _ _ (cY.1 this).1];exact this,h.fr.alloc _,by rw[ei _ _ _ (cY.1 h.box).1];exact h.box,h.le,h.Nc⟩
def bU(l:List UInt8):cC:=⟨l.toArray⟩
theorem lW(l:List UInt8):(bU l).size=l.length:=by show l.toArray.size=l.length;simp
theorem dR(l:List UInt8):(bU l).data.toList=l:=by simp[bU]
theorem gG{a b:cC}(h:a.data.toList=b.data.toList):a=b:=by apply ByteArray.ext;exact Array.toList_inj.1 h
theorem lM(t:cC):bU t.data.toList=t:=gG (by simp[bU])
theorem ext_list(t:cC)(a b:Nat):(t.extract a b).data.toList=(t.data.toList.drop a).take (b-a):=by simp[ByteArray.data_extract]
theorem nk(a b:List UInt8):bU a++bU b=bU (a++b):=gG (by simp[bU])
theorem jH(a b:List UInt8)(n:Nat)(h:a.length=n):dU (bU (a++b)) n=bU a:=by unfold dU;rw[if_neg (by rw[lW,dE];omega)];refine gG ?_;rw[ext_list,dR,dR,List.drop_zero,Nat.sub_zero,<-h,List.take_left]
theorem jI(a b:List UInt8)(sh:Bool)(n:Nat)(h:a.length=n):je (bU (a++b),sh) n=(bU b,sh):=by
 unfold je oH wG;have hs:¬(bU (a++b)).size<n:=by rw[lW,dE];omega
 simp only;rw[if_neg hs,if_neg hs];congr 1;refine gG ?_;rw[ext_list,dR,dR,<-h,List.drop_left,lW,dE];exact eL (by omega)
def Small(l:List (Int×B4)):Prop:=∀x∈l,0≤x.1∧x.1<256
def q1(u:cC):RS:=je (u,false) 4
def q2(u:cC):RS:=je (q1 u) 4
def q3(u:cC):RS:=je (q2 u) 4
def q4(u:cC):RS:=je (q3 u) 4
def q5(u:cC):RS:=je (q4 u) 1
def q6(u:cC):RS:=je (q5 u) 1
def qf(u:cC):Nat:=bq (dU (q1 u).1 4).data.toList
def qt(u:cC):Nat:=bq (dU (q2 u).1 4).data.toList
def qm(u:cC):Nat:=bq (dU (q3 u).1 4).data.toList
def qb(u:cC):Nat:=bq (dU (q4 u).1 1).data.toList
def qn(u:cC):Nat:=bq (dU (q5 u).1 1).data.toList
def ql(u:cC):List (Int×B4):=(eu (q6 u) (qn u)).1
def qe(u:cC):RS:=(eu (q6 u) (qn u)).2
theorem Bb(f t m nb:Int)(l:List (Int×B4)):gT f t m nb l=[83,78,68,49]++((n4 f).list'++((n4 t).list'++((n4 m).list'++([eH nb]++([eH (l.length:Int)]++nC l))))):=by simp[gT,jJ,B4.ba,B4.list']
theorem Db{u:cC}(h:(qe u).2=false)(h0:(qe u).1.size=0):u.size=18+5*qn u:=by unfold qe at h h0;have b0:=uN (r:=q6 u) (qn u) h;have b1:=iE (r:=q5 u) (n:=1) (by have:=b0.1;unfold q6 at this;exact this);have b2:=iE (r:=q4 u) (n:=1) (by have:=b1.1;unfold q5 at this;exact this);have b3:=iE (r:=q3 u) (n:=4) (by have:=b2.1;unfold q4 at this;exact this);have b4:=iE (r:=q2 u) (n:=4) (by have:=b3.1;unfold q3 at this;exact this);have b5:=iE (r:=q1 u) (n:=4) (by have:=b4.1;unfold q2 at this;exact this);have b6:=iE (r:=(u,false)) (n:=4) (by have:=b5.1;unfold q1 at this;exact this);have c0:=b0.2;have c1:=b1.2;have c2:=b2.2;have c3:=b3.2;have c4:=b4.2;have c5:=b5.2;have c6:=b6.2;change (q5 u).1.size=1+(q6 u).1.size at c1;change (q4 u).1.size=1+(q5 u).1.size at c2;change (q3 u).1.size=4+(q4 u).1.size at c3;change (q2 u).1.size=4+(q3 u).1.size at c4;change (q1 u).1.size=4+(q2 u).1.size at c5;change u.size=4+(q1 u).1.size at c6;omega
structure PK(w W:World)(bx rb bs:Nat)(r:RS)(f t m nb:Int)(vf:Value)(l:List (Int×B4)):Prop where
 pj:PJ w W bx rb r
 box:W.heap[bs]?=some (.cells #[.i f,.i t,.i m,.i nb,vf] 161 (0,0))
 row:W.ownsRow w.heap.size 165 5 vf l.length (jw l)
 ge:w.heap.size≤bs
 ne:bs≠bx
theorem PK.read{w W W':World}{bx rb bs n:Nat}{r:RS}{f t m nb:Int}{vf:Value}{l:List (Int×B4)}(h:PK w W bx rb bs r f t m nb vf l)(hr:PJ w W' bx rb (je r n))(hf:Fr [rb] W W'):PK w W' bx rb bs (je r n) f t m nb vf l:=by
 have hne:bs≠rb:=λe=>by have h1:=h.box;have h2:=h.pj.rd;unfold gQ at h2;rw[e,h2]at h1;simp at h1
 refine⟨hr,?_,aj h.row (λk hk=>hf.block k (h.row.lt k hk).2 ?_),h.ge,h.ne⟩
 .rw[hf.block bs (cY.1 h.box).1 (by simpa using hne)];exact h.box
 intro e;obtain⟨_,cur,h2⟩:=av h.row hk;have h3:=h.pj.rd;unfold gQ at h3;simp at e;rw[e,h3]at h2;simp at h2
theorem PK.alloc{w W:World}{bx rb bs:Nat}{r:RS}{f t m nb:Int}{vf:Value}{l:List (Int×B4)}(h:PK w W bx rb bs r f t m nb vf l)(o:Obj):PK w (W.alloc o) bx rb bs r f t m nb vf l:=
 ⟨h.pj.alloc o,by rw[ei _ _ _ (cY.1 h.box).1];exact h.box,h.row.alloc _,h.ge,h.ne⟩
theorem PK.drew{w W:World}{bx rb bs:Nat}{r:RS}{f t m nb:Int}{vf:Value}{l:List (Int×B4)}(h:PK w W bx rb bs r f t m nb vf l):PK w W.drew bx rb bs r f t m nb vf l:=
 ⟨⟨h.pj.rd,h.pj.fr.drew,h.pj.box,h.pj.le,h.pj.Nc⟩,h.box,aj h.row (λ_ _=>rfl),h.ge,h.ne⟩
theorem PK.other{w W W':World}{bx rb bs b8:Nat}{r:RS}{f t m nb:Int}{vf:Value}{l:List (Int×B4)}(h:PK w W bx rb bs r f t m nb vf l)(hf:Fr [b8] W W')(h1:b8≠bx∧b8≠rb∧b8≠bs)(h2:∀k,vf.ownBlock=some k->k≠b8)(h3:w.heap.size≤b8):PK w W' bx rb bs r f t m nb vf l:=by
 refine⟨⟨?_,h.pj.fr.trans hf (λk hk=>Or.inr (by simp at hk;subst hk;exact h3)),?_,h.pj.le,h.pj.Nc⟩,?_,aj h.row (λk hk=>hf.block k (h.row.lt k hk).2 (by simpa using h2 k hk)),h.ge,h.ne⟩
 .have:=h.pj.rd;unfold gQ at this⊢;rw[hf.block rb (cY.1 this).1 (by simpa using(Ne.symm h1.2.1))];exact this
 .rw[hf.block bx (cY.1 h.pj.box).1 (by simpa using(Ne.symm h1.1))];exact h.pj.box
 rw[hf.block bs (cY.1 h.box).1 (by simpa using(Ne.symm h1.2.2))];exact h.box
theorem PK.Uh{w W:World}{bx rb bs:Nat}{r:RS}{f t m nb:Int}{vf:Value}{l:List (Int×B4)}(h:PK w W bx rb bs r f t m nb vf l):bx<W.heap.size∧rb<W.heap.size∧bs<W.heap.size∧∀k,vf.ownBlock=some k->k<W.heap.size:=by have:=h.pj.rd;unfold gQ at this;exact⟨(cY.1 h.pj.box).1,(cY.1 this).1,(cY.1 h.box).1,λk hk=>(h.row.lt k hk).2⟩
theorem PK.push{w wr w9:World}{bx rb bs:Nat}{r:RS}{f t m nb:Int}{vf v9:Value}{l:List (Int×B4)}{x:Int×B4}(h:PK w wr bx rb bs r f t m nb vf l)(ho:w9.ownsRow w.heap.size 165 5 v9 (l.length+1) (jw l++Pn x))(hg:wr.grownBy w9 vf.ownBlock):
 PK w (w9.setCell (Ad bs 4) v9) bx rb bs r f t m nb v9 (l++[x])∧w9.cell? (Ad bs 4)=some vf∧w9.frozen? (Ad bs 4)=false:=by
 have tag:∀k,vf.ownBlock=some k->∃cur,wr.heap[k]?=some (.cells cur 165 (0,0)):=λk hk=>(av h.row hk).2;have rd:=h.pj.rd;unfold gQ at rd;have hbx:=h.pj.box;unfold z116 at hbx;have n1:some bs≠vf.ownBlock:=λe=>by obtain⟨cur,h2⟩:=tag bs e.symm;rw[h.box]at h2;simp at h2
 have n2:some rb≠vf.ownBlock:=λe=>by obtain⟨cur,h2⟩:=tag rb e.symm;rw[rd]at h2;simp at h2
 have n3:some bx≠vf.ownBlock:=λe=>by obtain⟨cur,h2⟩:=tag bx e.symm;rw[hbx]at h2;simp at h2
 obtain⟨l1,l2,l3,l4⟩:=h.Uh;have b9:w9.heap[bs]?=some (.cells #[.i f,.i t,.i m,.i nb,vf] 161 (0,0)):=by rw[hg.block bs l3 n1];exact h.box
 have r9:w9.heap[rb]?=some (.cells #[.t r.1,.bool r.2] 252 (0,0)):=by rw[hg.block rb l2 n2];exact rd
 have x9:w9.heap[bx]?=some z116:=by rw[hg.block bx l1 n3];exact h.pj.box
 have hrs:rb≠bs:=λe=>by rw[e,b9]at r9;simp at r9
 have iR:∀k,v9.ownBlock=some k->k≠bs:=λk hk e=>by obtain⟨_,cur,h2⟩:=av ho hk;rw[e,b9]at h2;simp at h2
 refine⟨⟨⟨?_,(h.pj.fr.grown hg (λk hk=>Or.inr (h.row.lt k hk).1)).setCell _ (Or.inr h.ge),?_,h.pj.le,h.pj.Nc⟩,?_,?_,h.ge,h.ne⟩,?_,ay b9 _⟩
 .unfold gQ;rw[de _ _ _ _ hrs];exact r9
 .rw[de _ _ _ _ (Ne.symm h.ne)];exact x9
 .rw[dy w9 bs 4 _ _ _ b9];rfl
 .have e:jw (l++[x])=jw l++Pn x:=by simp[jw]
  rw[e,dE];exact aj ho (λk hk=>de _ _ _ _ (iR k hk))
 rw[cell_of b9];rfl
theorem Sw(f t m nb:Int)(l:List (Int×B4))(v:Value)(base:Nat)(w:World)(ho:w.ownsRow base 165 5 v l.length (jw l))(hm0:0≤m)
 (kd:¬((f=0∨1≤f∧f≤999999999)∧(1≤t∧t≤999999999)∧f≠t∧m≤1073741824∧(1≤nb∧nb≤16)∧(f=0->(l.length:Int)=nb))):
 Rc 162 #[.agg #[.i f,.i t,.i m,.i nb,v]] w (.bool false) λw'=>Fr [] w w':=by
 obtain⟨ao,cap,hsh⟩:=ah ho;subst hsh;obtain⟨bx,hbx⟩:=eX w.heap.size;obtain⟨n,hn⟩:=eX l.length;rw[hn]at kd⊢;have kd':(f=0∧(¬(1≤t∧t≤999999999)∨(1≤t∧t≤999999999)∧(1073741824<m∨m≤1073741824∧(nb<1∨¬nb<1∧(16<nb∨¬16<nb∧(n:Int)≠nb)))))∨(f≠0∧¬(1≤f∧f≤999999999)∧(¬(1≤t∧t≤999999999)∨(1≤t∧t≤999999999)))∨((1≤f∧f≤999999999)∧(¬(1≤t∧t≤999999999)∨(1≤t∧t≤999999999)∧(f=t∨f≠t∧(1073741824<m∨m≤1073741824∧(nb<1∨¬nb<1∧16<nb))))):=by omega
 clear kd;obtain⟨g1,hg1⟩:∃g1:Bool,(decide (1≤t)&&decide (t≤999999999))=g1:=⟨_,rfl⟩;obtain⟨g0,hg0⟩:∃g0:Bool,(decide (1≤f)&&decide (f≤999999999))=g0:=⟨_,rfl⟩;have JN:Hid (∀W,Rc 199 #[.i t] W (.bool g1) λw'=>w'=W):=λW=>by rw[<-hg1];exact fZ t W
 have Sv:Hid (∀W,Rc 199 #[.i f] W (.bool g0) λw'=>w'=W):=λW=>by rw[<-hg0];exact fZ f W
 obtain⟨w0,hw0⟩:=eX (w.alloc (.cells #[.i f,.i t,.i m,.i nb,.slice ao n cap] 161));have b0:w0.heap[bx]?=some (.cells #[.i f,.i t,.i m,.i nb,.slice ao n cap] 161 (0,0)):=by rw[<-hw0,<-hbx];exact di w _
 have HB:Hid (Fr [] w w0):=by rw[<-hw0];exact fR.alloc _
 have e0:w0.cell? (Ad bx 0)=some (.i f):=ce b0 rfl;have e1:w0.cell? (Ad bx 1)=some (.i t):=ce b0 rfl;have e2:w0.cell? (Ad bx 2)=some (.i m):=ce b0 rfl;have e3:w0.cell? (Ad bx 3)=some (.i nb):=ce b0 rfl;have e4:w0.cell? (Ad bx 4)=some (.slice ao n cap):=ce b0 rfl;have dV:=hw0;clear hw0 ho b0 hn;rcases kd' with⟨k0,k1|⟨k1,k2|⟨k2,k3|⟨k3,k4|⟨k4,k5⟩⟩⟩⟩⟩|⟨k0,k6,k1|k1⟩|⟨k6,k1|⟨k1,k7|⟨k7,k2|⟨k2,k3|⟨k3,k4⟩⟩⟩⟩⟩;all_goals
  try have a1:g1=true:=by rw[<-hg1];simp;omega
  try subst a1
  try have a1:g1=false:=by rw[<-hg1];simp;omega
  try subst a1
  try have a0:g0=true:=by rw[<-hg0];simp;omega
  try subst a0
  try have a0:g0=false:=by rw[<-hg0];simp;omega
  try subst a0
  try have tf:(f==0)=true:=by simp;omega
  try have Zc:(f==0)=false:=by simp;omega
  try have Vt:(f==t)=true:=by simp;omega
  try have aai:(f==t)=false:=by simp;omega
  have Sj:(0:Int)≤m:=hm0;try have Sl:m≤1073741824:=by omega
  try have tm3:decide (m≤1073741824)=false:=by simp;omega
  try have Sm:¬nb<1:=by omega
  try have Sr:¬(16:Int)<nb:=by omega
  try have Vu:((n:Int) != nb)=true:=by simp;omega
  try have aaj:nb<1:=by omega
  try have aak:(16:Int)<nb:=by omega
  clear hg1 hg0 k1;try clear k0
  try clear k2
  try clear k3
  try clear k4
  try clear k5
  try clear k6
  try clear k7
  go_enter Tryz.func162,Tryz.ntmps162;go_wp2_with (first
   |(go_at_call_of 199 (Value.i f);refine(Sv.o _).mono ?_;rintro e w' ⟨rfl,hw'⟩;subst w')
   |(go_at_call_of 199 (Value.i t);refine(JN.o _).mono ?_;rintro e w' ⟨rfl,hw'⟩;subst w'))
  go_ret;exact⟨rfl,HB.o⟩
theorem N7(t m nb:Int)(l:List (Int×B4))(v:Value)(base:Nat)(w:World)(ho:w.ownsRow base 165 5 v l.length (jw l))(hl:l.length≤255)(hm0:0≤m)
 (ht:1≤t∧t≤999999999)(hm:m≤1073741824)(hnb:1≤nb∧nb≤16)(h0:(l.length:Int)=nb)(hxb:∀x∈l,0≤x.1∧x.1<256)(hnr:¬iD nb l):
 Rc 162 #[.agg #[.i 0,.i t,.i m,.i nb,v]] w (.bool false) λw'=>Fr [] w w':=by
 obtain⟨ao,cap,hsh⟩:=ah ho;subst hsh;obtain⟨bx,hbx⟩:=eX w.heap.size;obtain⟨n,hn⟩:=eX l.length;rw[hn]at hl;obtain⟨w0,hw0⟩:=eX (w.alloc (.cells #[.i 0,.i t,.i m,.i nb,.slice ao n cap] 161));have b0:w0.heap[bx]?=some (.cells #[.i 0,.i t,.i m,.i nb,.slice ao n cap] 161 (0,0)):=by rw[<-hw0,<-hbx];exact di w _
 have F0:Fr [] w w0:=by rw[<-hw0];exact fR.alloc _
 have e0:cE w0 bx 0 0:=ce b0 rfl;have e1:cE w0 bx 1 t:=ce b0 rfl;have e2:cE w0 bx 2 m:=ce b0 rfl;have e3:cE w0 bx 3 nb:=ce b0 rfl;have e4:cD w0 bx 4 (.slice ao n cap):=ce b0 rfl;have HB:=Hj4 b0 F0 ho hn;have JN:Hid (∀W,Rc 199 #[.i t] W (.bool true) λw'=>w'=W):=λW=>by have:=fZ t W;rw[show(decide (1≤t)&&decide (t≤999999999))=true by simp;omega]at this;exact this
 have Sj:(0:Int)≤m:=hm0;have Vt:((0:Int)==t)=false:=by simp;omega
 have Sl:m≤1073741824:=hm;have Sm:¬nb<1:=by omega
 have Sr:¬(16:Int)<nb:=by omega
 rw[hn]at h0;have Vu:((n:Int) != nb)=false:=by simpa using h0
 have HXB:=Hd hxb;have Ku:=Hd hnr;clear h0 hxb hnr;rw[hn]at ho⊢;have dV:=hw0;clear hw0 ho b0 F0;go_enter Tryz.func162,Tryz.ntmps162;go_wp2_with (go_at_call 199;refine(JN.o _).mono ?_;rintro e w' ⟨rfl,hw'⟩;subst w');clear Sj Sl Sm Sr Vu;go_loopw [5,67] (λls i wr=>∃k:Nat,k≤n∧i=.i k∧ls=.i (least l k)∧(∀j(h:j<l.length),j<k->least l j≤l[j].1∧l[j].1<nb)∧Hid (Fr [] w0 wr)) (λ_ i _=>n-(intOf i).toNat)
 case atStart=>exact⟨0,dC _,rfl,rfl,λj _ h=>absurd h (Nat.not_lt_zero _),fR⟩
 obtain⟨k,hk,rfl,rfl,hpf,HK⟩:=hrel;obtain⟨W3,hW3⟩:=eY wr;subst hW3;clear e0 e1 e2 e3 e4 dV;have Kv:=Hd hpf;clear hpf;by_cases hlt:k<n
 .have hltz:(k:Int)<(n:Int):=by omega
  have hll:k<l.length:=by rw[HB.o.2.2.2];exact hlt
  have hor:=bD HB.o.2.2.1 (HB.o.2.1.tr HK.o);obtain⟨lg,qo,MG,hcc⟩:=bR hor (by omega);subst qo;have hb5:=mF l k hll;obtain⟨x,hx⟩:=eX l[k];rw[hx]at hb5;have d0:W3.cell? (Ad lg (k*5))=some (.i x.1):=by rw[hcc _ (by omega)];exact hb5.1
  have d1:W3.cell? (Ad lg (k*5+1))=some (.u (x.2.a.toNat:Int)):=by rw[hcc _ (by omega)];exact hb5.2.1
  have d2:W3.cell? (Ad lg (k*5+2))=some (.u (x.2.b.toNat:Int)):=by rw[hcc _ (by omega)];exact hb5.2.2.1
  have d3:W3.cell? (Ad lg (k*5+3))=some (.u (x.2.c.toNat:Int)):=by rw[hcc _ (by omega)];exact hb5.2.2.2.1
  have d4:W3.cell? (Ad lg (k*5+4))=some (.u (x.2.d.toNat:Int)):=by rw[hcc _ (by omega)];exact hb5.2.2.2.2
  have x3:W3.cell? (Ad bx 3)=some (.i nb):=by have hh:=(HK.o.block bx (cY.1 HB.o.1).1 (by simp)).trans HB.o.1;rw[cell_of hh];rfl
  have lbx:bx<W3.heap.size:=dm _ _ x3;have hsx:least l (k+1)=x.1+1:=by rw[dY l k hll,hx]
  obtain⟨z,hz⟩:=eX (least l k);have yh:=Hj2 hx hz;rw[hz];have Kt:=Hd hsx;have hxb:=HXB.o x (by rw[<-hx];exact eE _);have e5:IntKind.i64.wrap (x.1+1)=x.1+1:=jS (by omega) (by omega);clear hcc hb5 hx hor hsx hz;by_cases r1:x.1<z
  .go_wp2;go_ret;exact⟨rfl,(HB.o.2.1.tr HK.o).alloc _⟩
  by_cases r2:nb≤x.1
  .go_wp2;go_ret;exact⟨rfl,(HB.o.2.1.tr HK.o).alloc _⟩
  go_wp2;go_roundw
  case rel=>
   refine⟨k+1,by omega,by go_num,by rw[Kt.o],λj hj hjk=>?_,HK.o.alloc _⟩;rcases Nat.lt_succ_iff_lt_or_eq.1 hjk with h1|h1
   .exact Kv.o j hj h1
   subst h1;rw[yh.o.1,yh.o.2];omega
  simp[intOf];omega
 exact absurd (λj hj=>Kv.o j hj (by have:=HB.o.2.2.2;omega)) Ku.o
theorem N8(f:Int)(t m nb:Int)(l:List (Int×B4))(v:Value)(base:Nat)(w:World)(ho:w.ownsRow base 165 5 v l.length (jw l))(hl:l.length≤255)(hm0:0≤m)
 (hf:1≤f∧f≤999999999)(ht:1≤t∧t≤999999999)(hft:f≠t)(hm:m≤1073741824)(hnb:1≤nb∧nb≤16)(hxb:∀x∈l,0≤x.1∧x.1<256)(hnr:¬iD nb l):
 Rc 162 #[.agg #[.i f,.i t,.i m,.i nb,v]] w (.bool false) λw'=>Fr [] w w':=by
 obtain⟨ao,cap,hsh⟩:=ah ho;subst hsh;obtain⟨bx,hbx⟩:=eX w.heap.size;obtain⟨n,hn⟩:=eX l.length;rw[hn]at hl;obtain⟨w0,hw0⟩:=eX (w.alloc (.cells #[.i f,.i t,.i m,.i nb,.slice ao n cap] 161));have b0:w0.heap[bx]?=some (.cells #[.i f,.i t,.i m,.i nb,.slice ao n cap] 161 (0,0)):=by rw[<-hw0,<-hbx];exact di w _
 have F0:Fr [] w w0:=by rw[<-hw0];exact fR.alloc _
 have e0:w0.cell? (Ad bx 0)=some (.i f):=ce b0 rfl;have e1:w0.cell? (Ad bx 1)=some (.i t):=ce b0 rfl;have e2:w0.cell? (Ad bx 2)=some (.i m):=ce b0 rfl;have e3:w0.cell? (Ad bx 3)=some (.i nb):=ce b0 rfl;have e4:w0.cell? (Ad bx 4)=some (.slice ao n cap):=ce b0 rfl;have HB:=Hj4 b0 F0 ho hn;have JN:Hid (∀W,Rc 199 #[.i t] W (.bool true) λw'=>w'=W):=λW=>by have:=fZ t W;rw[show(decide (1≤t)&&decide (t≤999999999))=true by simp;omega]at this;exact this
 have Sv:Hid (∀W,Rc 199 #[.i f] W (.bool true) λw'=>w'=W):=λW=>by have:=fZ f W;rw[show(decide (1≤f)&&decide (f≤999999999))=true by simp;omega]at this;exact this
 have Zc:(f==0)=false:=by simp;omega
 have Sj:(0:Int)≤m:=hm0;have Vt:(f==t)=false:=by simpa using hft
 have Sl:m≤1073741824:=hm;have Sm:¬nb<1:=by omega
 have Sr:¬(16:Int)<nb:=by omega
 have HXB:=Hd hxb;have Ku:=Hd hnr;clear hxb hnr;rw[hn]at ho⊢;have dV:=hw0;clear hw0 ho b0 F0;go_enter Tryz.func162,Tryz.ntmps162;go_wp2_with (first
  |(go_at_call_of 199 (Value.i f);refine(Sv.o _).mono ?_;rintro e w' ⟨rfl,hw'⟩;subst w')
  |(go_at_call_of 199 (Value.i t);refine(JN.o _).mono ?_;rintro e w' ⟨rfl,hw'⟩;subst w'))
 clear Sj Sl Sm Sr Vt;go_loopw [5,67] (λls i wr=>∃k:Nat,k≤n∧i=.i k∧ls=.i (least l k)∧(∀j(h:j<l.length),j<k->least l j≤l[j].1∧l[j].1<nb)∧Hid (Fr [] w0 wr)) (λ_ i _=>n-(intOf i).toNat)
 case atStart=>exact⟨0,dC _,rfl,rfl,λj _ h=>absurd h (Nat.not_lt_zero _),fR⟩
 obtain⟨k,hk,rfl,rfl,hpf,HK⟩:=hrel;obtain⟨W3,hW3⟩:=eY wr;subst hW3;clear e0 e1 e2 e3 e4 dV;have Kv:=Hd hpf;clear hpf;by_cases hlt:k<n
 .have hltz:(k:Int)<(n:Int):=by omega
  have hll:k<l.length:=by rw[HB.o.2.2.2];exact hlt
  have hor:=bD HB.o.2.2.1 (HB.o.2.1.tr HK.o);obtain⟨lg,qo,MG,hcc⟩:=bR hor (by omega);subst qo;have hb5:=mF l k hll;obtain⟨x,hx⟩:=eX l[k];rw[hx]at hb5;have d0:W3.cell? (Ad lg (k*5))=some (.i x.1):=by rw[hcc _ (by omega)];exact hb5.1
  have d1:W3.cell? (Ad lg (k*5+1))=some (.u (x.2.a.toNat:Int)):=by rw[hcc _ (by omega)];exact hb5.2.1
  have d2:W3.cell? (Ad lg (k*5+2))=some (.u (x.2.b.toNat:Int)):=by rw[hcc _ (by omega)];exact hb5.2.2.1
  have d3:W3.cell? (Ad lg (k*5+3))=some (.u (x.2.c.toNat:Int)):=by rw[hcc _ (by omega)];exact hb5.2.2.2.1
  have d4:W3.cell? (Ad lg (k*5+4))=some (.u (x.2.d.toNat:Int)):=by rw[hcc _ (by omega)];exact hb5.2.2.2.2
  have x3:W3.cell? (Ad bx 3)=some (.i nb):=by have hh:W3.heap[bx]?=_:=(HK.o.block bx (cY.1 HB.o.1).1 (by simp)).trans HB.o.1;rw[cell_of hh];rfl
  have lbx:bx<W3.heap.size:=dm _ _ x3;have hsx:least l (k+1)=x.1+1:=by rw[dY l k hll,hx]
  obtain⟨z,hz⟩:=eX (least l k);have yh:=Hj2 hx hz;rw[hz];have Kt:=Hd hsx;have hxb:=HXB.o x (by rw[<-hx];exact eE _);have e5:IntKind.i64.wrap (x.1+1)=x.1+1:=jS (by omega) (by omega);clear hcc hb5 hx hor hsx hz;by_cases r1:x.1<z
  .go_wp2;go_ret;exact⟨rfl,(HB.o.2.1.tr HK.o).alloc _⟩
  by_cases r2:nb≤x.1
  .go_wp2;go_ret;exact⟨rfl,(HB.o.2.1.tr HK.o).alloc _⟩
  go_wp2;go_roundw
  case rel=>
   refine⟨k+1,by omega,by go_num,by rw[Kt.o],λj hj hjk=>?_,HK.o.alloc _⟩;rcases Nat.lt_succ_iff_lt_or_eq.1 hjk with h1|h1
   .exact Kv.o j hj h1
   subst h1;rw[yh.o.1,yh.o.2];omega
  simp[intOf];omega
 exact absurd (λj hj=>Kv.o j hj (by have:=HB.o.2.2.2;omega)) Ku.o
def Ag(f t m nb:Int)(l:List (Int×B4)):Prop:=(f=0∨(1≤f∧f≤999999999))∧(1≤t∧t≤999999999)∧f≠t∧m≤1073741824∧(1≤nb∧nb≤16)∧(f=0->(l.length:Int)=nb)∧iD nb l
theorem jd{nb:Int}{l:List (Int×B4)}(h:iD nb l):∀k,k≤l.length->(k:Int)≤least l k
 |0,_=>gm _
 |k+1,hk=>by have ih:=jd h k (by omega);have:=(h k (by omega)).1;rw[dY l k (by omega)];omega
theorem yj{nb:Int}{l:List (Int×B4)}(h:iD nb l)(h0:0≤nb):(l.length:Int)≤nb:=by
 cases hl:l.length with
 |zero=>omega
 |succ k=>
  have h1:=jd h k (by omega);have:=h k (by omega);omega
theorem D5(f t m nb:Int)(l:List (Int×B4))(v:Value)(base:Nat)(w:World)(ho:w.ownsRow base 165 5 v l.length (jw l))(hl:l.length≤255)(hm0:0≤m)(hxb:∀x∈l,0≤x.1∧x.1<256)(mb:Bool)(hmb:mb=true↔Ag f t m nb l):
 Rc 162 #[.agg #[.i f,.i t,.i m,.i nb,v]] w (.bool mb) λw'=>Fr [] w w':=by
 cases mb with
 |true=>
  obtain⟨h1,h2,h3,h4,h5,h6,h7⟩:=hmb.1 rfl;have:=yj h7 (by omega);exact Gs f t m nb l v base w ho (by omega) h1 h2 h3 ⟨hm0,h4⟩ h5 h6 h7
 |false=>
  have hno:¬Ag f t m nb l:=λh=>by have:=hmb.2 h;cases this
  by_cases k:(f=0∨1≤f∧f≤999999999)∧(1≤t∧t≤999999999)∧f≠t∧m≤1073741824∧(1≤nb∧nb≤16)∧(f=0->(l.length:Int)=nb)
  .obtain⟨k1,ht,hft,hm,hnb,k6⟩:=k;by_cases hf0:f=0
   .subst hf0;exact N7 t m nb l v base w ho hl hm0 ht hm hnb (k6 rfl) hxb (λhr=>hno ⟨Or.inl rfl,ht,hft,hm,hnb,k6,hr⟩)
   exact N8 f t m nb l v base w ho hl hm0 (by omega) ht hft hm hnb hxb (λhr=>hno ⟨k1,ht,hft,hm,hnb,k6,hr⟩)
  exact Sw f t m nb l v base w ho hm0 k
end Go.Proofs.YtjceeemlilnplaaGreatDoor
