import Derived.Test.YtjceeemlilnplaaGreatDoorM03
import Derived.Test.YtjceeemlilnplaaGreatDoorM04
import Derived.Deep.RegionHeld3
import Derived.Test.YtjceeemlilnplaaGreatDoorM09
import Derived.Test.YtjceeemlilnplaaGreatDoorM10
set_option maxRecDepth 100000
set_option maxHeartbeats 12800000
set_option linter.all false
namespace Go.Proofs.YtjceeemlilnplaaGreatDoor
open Go.RowKit Go.Maps Go.MuLone
theorem bA(t:cC)(w:World)(ht:t.size≤4):
 Rc 99 #[.t t] w (.i (bq t.data.toList:Int)) λw'=>w'=w:=by
 obtain⟨n,hn⟩:=eX t.size;have hlen:t.data.toList.length=n:=by rw[fk];exact hn
 go_enter Tryz.func99,Tryz.ntmps99;go_wp2;go_loop [3,4] (λc i=>∃(k:Nat),k≤n∧i=.i k∧c=.i (bq (t.data.toList.take k):Int)) (λ_ i=>n-(intOf i).toNat)
 case atStart=>exact⟨0,dC _,rfl,rfl⟩
 obtain⟨k,hk,rfl,rfl⟩:=hrel;by_cases hlt:k<n
 .have hltz:(k:Int)<(n:Int):=by omega
  have hv:=kM t.data.toList k (by omega);have hv2:bq (t.data.toList.take k)<16777216:=by have:256^k≤256^3:=Nat.pow_le_pow_right (by omega) (by omega);omega
  have hx:t[k].toNat<256:=UInt8.toNat_lt _;have hs:bq (t.data.toList.take (k+1))=bq (t.data.toList.take k)*256+t[k].toNat:=by rw[pG _ _ (by omega)];rfl
  obtain⟨V,hV⟩:=eX (bq (t.data.toList.take k));rw[hV]at hs hv2⊢;have hw:IntKind.i64.wrap (256*(V:Int))=256*(V:Int):=by simp[IntKind.wrap,IntKind.bits,IntKind.signed];omega
  have hw3:IntKind.i64.wrap (256*(V:Int)+(t[k].toNat:Int))=256*(V:Int)+(t[k].toNat:Int):=by simp[IntKind.wrap,IntKind.bits,IntKind.signed];omega
  clear hv hV;go_wp2;go_round
  case rel=>exact⟨k+1,by omega,by go_num,by rw[hs];congr 1;push_cast;omega⟩
  simp[intOf];omega
 have hkk:k=n:=by omega
 subst hkk;have e:t.data.toList.take k=t.data.toList:=eL (by omega);rw[e];go_wp2;go_ret;exact⟨rfl,rfl⟩
theorem mh{a b:cC}(h:a.data.toList=b.data.toList):a=b:=by cases a;cases b;simp at h;exact congrArg _ (Array.ext' (by simpa using h))
def EW(n:Nat):Nat->List UInt8
 |0=>[]
 |k+1=>eH ((n / 256^k:Nat):Int)::EW n k
theorem Dk(n:Nat):∀k,(EW n k).length=k
 |0=>rfl
 |k+1=>by simp[EW,Dk n k]
theorem bP(n m:Nat)(w:World)(hn:n<4294967296)(hm:m≤4):
 Rc 58 #[.i n,.i m] w (.t ⟨(EW n m).toArray⟩) λw'=>Fr [] w w':=by
 have hcv:∀(W:World)(z:Nat),(convert 134 9 (.slice (some (Ad W.heap.size 0)) 1 1)).run Tryz.prog (W.alloc (.cells #[.u ((z:Int)%256)] 5))=.ok (.t ⟨#[eH (z:Int)]⟩) (W.alloc (.cells #[.u ((z:Int)%256)] 5)):=λW z=>by
  have:=run_convert_bytes_back (P:=Tryz.prog) (W.alloc (.cells #[.u ((z:Int)%256)] 5)) 134 9 5 (Ad W.heap.size 0) 1 [eH (z:Int)] Tryz.underlying134 Tryz.underlying5 Tryz.underlying9 (by
   intro j hj;have hj':j<1:=hj;obtain rfl:j=0:=by omega
   have h8:=di W (.cells #[.u ((z:Int)%256)] 5);rw[show((Ad W.heap.size 0):Addr).add 0=(Ad W.heap.size 0) from rfl,cell_of h8,dX];rfl)
  exact this
 go_enter Tryz.func58,Tryz.ntmps58;go_wp2;go_loopw [0,5,6] (λc o i wr=>∃(k:Nat),k≤m∧i=.i k∧c=.i ((n / 256^k:Nat):Int)∧o=.string ⟨(EW n k).toArray⟩∧Hid (Fr [] w wr)) (λ_ _ i _=>m-(intOf i).toNat)
 case atStart=>exact⟨0,dC _,rfl,by simp,rfl,fR⟩
 obtain⟨k,hk,rfl,rfl,rfl,HF⟩:=hrel;obtain⟨W3,hW3⟩:=eY wr;subst hW3;have hN:n / 256^k<4294967296:=Nat.lt_of_le_of_lt (Nat.div_le_self _ _) hn;have hN1:n / 256^(k+1)=n / 256^k / 256:=by rw[Nat.pow_succ,Nat.div_div_eq_div_mul]
 have ho:(⟨(EW n (k+1)).toArray⟩:cC)=⟨#[eH ((n / 256^k:Nat):Int)]⟩++⟨(EW n k).toArray⟩:=mh (by simp[EW]);obtain⟨N,hNN⟩:=eX (n / 256^k);rw[hNN]at hN hN1 ho⊢;have hc3:=hcv W3 N;by_cases hlt:k<m
 .have hltz:(k:Int)<(m:Int):=by omega
  have hll:¬9223372036854775807<1+(EW n k).length:=by rw[Dk];omega
  go_wp2;go_roundw
  case rel=>exact⟨k+1,by omega,by go_num,by rw[hN1];rfl,by rw[ho],HF.o.alloc _⟩
  simp[intOf];omega
 obtain rfl:k=m:=by omega
 go_wp2;go_ret;exact⟨rfl,HF.o⟩
theorem Al(n:Nat):(⟨(EW n 4).toArray⟩:cC)=(n4 (n:Int)).ba:=by simp only[EW,n4,B4.ba];simp
theorem Ak(n:Nat):(⟨(EW n 1).toArray⟩:cC)=⟨#[eH (n:Int)]⟩:=by simp[EW]
theorem pI(a b:Nat)(ha:a<4294967296)(hb:b<4294967296):bits .xor .i64 (a:Int) (b:Int)=((a^^^b:Nat):Int):=by have hx:a^^^b<2^32:=Nat.xor_lt_two_pow (by omega) (by omega);show IntKind.i64.wrap ((BitVec.ofInt 64 (a:Int)^^^BitVec.ofInt 64 (b:Int)).toNat:Int)=_;rw[BitVec.toNat_xor,ofInt64 a ha,ofInt64 b hb];exact sO _ (by omega)
theorem jr(t:cC)(w:World)(ht:t.size≤2000000):
 Rc 59 #[.t t] w (.t (kE t.data.toList).ba) λw'=>Fr [] w w':=by
 obtain⟨n,hn⟩:=eX t.size;go_enter Tryz.func59,Tryz.ntmps59;go_wp2;go_loop [3,4] (λc i=>∃(k:Nat),k≤n∧i=.i k∧c=.i (zK (t.data.toList.take k):Int)) (λ_ i=>n-(intOf i).toNat)
 case atStart=>exact⟨0,dC _,rfl,rfl⟩
 obtain⟨k,hk,rfl,rfl⟩:=hrel;by_cases hlt:k<n
 .have hltz:(k:Int)<(n:Int):=by omega
  have hl:k<t.data.toList.length:=by rw[fk];exact(by omega:k<t.size)
  have hs:=xL t.data.toList k hl;have e:t.data.toList[k]=t[k]:=by rw[Array.getElem_toList];rfl
  rw[e]at hs;have hf:=vH (t.data.toList.take k);have hx:t[k].toNat<256:=UInt8.toNat_lt _;obtain⟨V,hV⟩:=eX (zK (t.data.toList.take k));rw[hV]at hs hf⊢;have hb:=pI V t[k].toNat hf (by omega);have hxl:V^^^t[k].toNat<4294967296:=Nat.xor_lt_two_pow (n:=32) (by omega) (by omega);unfold Dy at hs;obtain⟨X,hX⟩:=eX (V^^^t[k].toNat);rw[hX]at hb hs hxl;have hw:IntKind.i64.wrap ((X:Int)*16777619)=(X:Int)*16777619:=aD ⟨by omega,by omega⟩;have hm:(X:Int)*16777619%4294967296=((X*16777619%4294967296:Nat):Int):=by omega
  clear hV hX;go_wp2;go_round
  case rel=>exact⟨k+1,by omega,by go_num,by rw[hs,<-hm];try rfl⟩
  simp[intOf];omega
 have hkk:k=n:=by omega
 subst hkk;have e:=eL (by rw[fk];exact Nat.le_of_eq hn);rw[e];have HU:Hid (∀W,Rc 58 #[.i (zK t.data.toList:Int),.i 4] W (.t (kE t.data.toList).ba) λw'=>Fr [] W w'):=λW=>by have h8:=bP (zK t.data.toList) 4 W (vH _) (by omega);rw[Al]at h8;exact h8
 obtain⟨f,Ro⟩:=eX (zK t.data.toList);rw[Ro]at HU⊢;go_wp2_with (go_at_call 58;refine(HU.o _).mono ?_;rintro e w' ⟨rfl,f5⟩);go_ret;exact⟨rfl,f5⟩
def Z5(r:ak)(g:Int):Int:=
 match r.sh.find? (λx=>x.au==g)with
 |some x=>x.came
 |none=>match r.ms.find? (λx=>x.1==g)with
  |some m=>m.2
  |none=>-1
theorem Bg(B b:Nat)(s:ak)(g:Int)(j:Nat)(x:aS)(w:World)(h:aG B w b s)(hl:s.sh.length≤12)(hf:fi (λy:aS=>y.au==g) 0 s.sh=(j:Int))(hx:s.sh[j]?=some x):
 Rc 57 #[.p b,.i g] w (.i x.came) λw'=>Fr [] w w':=by
 have H1:Hid (Rc 56 #[.p b,.i g] w (.i j) λw'=>w'=w):=by have h8:=aQ B b s g w h (by omega);rw[hf]at h8;exact h8
 have hj:j<s.sh.length:=(df.1 hx).1;obtain⟨ao,cap,hsv⟩:=ah h.sh;have ho:=h.sh;rw[hsv]at ho;obtain⟨gg,e',hcp,_⟩:=aB ho (by omega);subst e';have cZ:w.cell? (Ad b 36)=some (.slice (some (Ad gg 0)) s.sh.length cap):=by rw[<-hsv];exact h.cells.2.2.2.2.1
 have c3:w.cell? (Ad gg (j*36+3))=some (.i x.came):=by rw[h.fE hsv j hj 3 (by omega),(df.1 hx).2];rfl
 obtain⟨n,hn⟩:=eX s.sh.length;obtain⟨c,hc⟩:=eX x.came;rw[hn]at cZ hj hl;rw[hc]at c3⊢;have j0:(0:Int)≤(j:Int):=by omega
 have j1:(j:Int)<(n:Int):=by omega
 clear h ho hx hf hsv hn hc;go_enter Tryz.func57,Tryz.ntmps57;go_wp2_with (first
  |(go_at_call 56;refine H1.o.mono ?_;rintro e w' ⟨rfl,hw'⟩;have hw'':=hw'.symm;subst hw''))
 go_ret;exact⟨rfl,by first|exact fR|exact fR.drew|exact fR.drewN _⟩
theorem Bh(B b:Nat)(s:ak)(g:Int)(j:Nat)(m:Int×Int)(w:World)(h:aG B w b s)(hl:s.sh.length≤12)(hml:s.ms.length≤12)(hf:fi (λy:aS=>y.au==g) 0 s.sh=-1)(hfm:fi (λy:Int×Int=>y.1==g) 0 s.ms=(j:Int))(hx:s.ms[j]?=some m):
 Rc 57 #[.p b,.i g] w (.i m.2) λw'=>Fr [] w w':=by
 have H1:Hid (Rc 56 #[.p b,.i g] w (.i (-1)) λw'=>w'=w):=by have h8:=aQ B b s g w h (by omega);rw[hf]at h8;exact h8
 have H2:Hid (Rc 112 #[.p b,.i g] w (.i j) λw'=>w'=w):=by have h8:=dP B b s g w h (by omega);rw[hfm]at h8;exact h8
 have hj:j<s.ms.length:=(df.1 hx).1;obtain⟨ao,cap,hsv⟩:=ah h.ms;have ho:=h.ms;rw[hsv]at ho;obtain⟨gg,e',hcp,hcc⟩:=aB ho (by omega);subst e';have c37:w.cell? (Ad b 37)=some (.slice (some (Ad gg 0)) s.ms.length cap):=by rw[<-hsv];exact h.cells.2.2.2.2.2
 have c3:w.cell? (Ad gg (j*2+1))=some (.i m.2):=by rw[hcc _ (by omega),(jE s.ms j hj).2,(df.1 hx).2]
 obtain⟨n,hn⟩:=eX s.ms.length;obtain⟨c,hc⟩:=eX m.2;rw[hn]at c37 hj hml;rw[hc]at c3⊢;have j0:(0:Int)≤(j:Int):=by omega
 have j1:(j:Int)<(n:Int):=by omega
 clear h ho hx hf hfm hsv hn hc hcc;go_enter Tryz.func57,Tryz.ntmps57;go_wp2_with (first
  |(go_at_call 112;refine H2.o.mono ?_;rintro e w' ⟨rfl,hw'⟩;have hw'':=hw'.symm;subst hw'')
  |(go_at_call 56;refine H1.o.mono ?_;rintro e w' ⟨rfl,hw'⟩;have hw'':=hw'.symm;subst hw''))
 go_ret;exact⟨rfl,by first|exact fR|exact fR.drew|exact fR.drewN _⟩
theorem Bj(B b:Nat)(s:ak)(g:Int)(w:World)(h:aG B w b s)(hl:s.sh.length≤12)(hml:s.ms.length≤12)(hf:fi (λy:aS=>y.au==g) 0 s.sh=-1)(hfm:fi (λy:Int×Int=>y.1==g) 0 s.ms=-1):
 Rc 57 #[.p b,.i g] w (.i (-1)) λw'=>Fr [] w w':=by
 have H1:Hid (Rc 56 #[.p b,.i g] w (.i (-1)) λw'=>w'=w):=by have h8:=aQ B b s g w h (by omega);rw[hf]at h8;exact h8
 have H2:Hid (Rc 112 #[.p b,.i g] w (.i (-1)) λw'=>w'=w):=by have h8:=dP B b s g w h (by omega);rw[hfm]at h8;exact h8
 clear h hf hfm;go_enter Tryz.func57,Tryz.ntmps57;go_wp2_with (first
  |(go_at_call 112;refine H2.o.mono ?_;rintro e w' ⟨rfl,hw'⟩;have hw'':=hw'.symm;subst hw'')
  |(go_at_call 56;refine H1.o.mono ?_;rintro e w' ⟨rfl,hw'⟩;have hw'':=hw'.symm;subst hw''))
 go_ret;exact⟨rfl,by first|exact fR|exact fR.drew|exact fR.drewN _⟩
def aI(r:ak):Int:=match r.sh.getLast? with
 |some x=>x.au
 |none=>0
theorem iF(B b:Nat)(s:ak)(w:World)(h:aG B w b s)(hl:s.sh.length≤12):
 Rc 92 #[.p b] w (.i (aI s)) λw'=>Fr [] w w':=by
 obtain⟨ao,cap,hsv⟩:=ah h.sh;have cZ:w.cell? (Ad b 36)=some (.slice ao s.sh.length cap):=by rw[<-hsv];exact h.cells.2.2.2.2.1
 by_cases h0:s.sh.length=0
 .have e:aI s=0:=by have:s.sh=[]:=List.length_eq_zero_iff.1 h0;simp[aI,this]
  rw[h0]at cZ;rw[e];clear h hsv;go_enter Tryz.func92,Tryz.ntmps92;go_wp2;go_ret;exact⟨rfl,by first|exact fR|exact fR.drew|exact fR.drewN _⟩
 have ho:=h.sh;rw[hsv]at ho;obtain⟨gg,e',hcp,_⟩:=aB ho (by omega);subst e';obtain⟨n,hn⟩:∃n,s.sh.length=n+1:=⟨s.sh.length-1,by omega⟩;have hlast:s.sh.getLast?=some (s.sh[n]'(by omega)):=by
  have e2:s.sh.length-1=n:=by omega
  rw[kO,e2];exact dp _
 have e:aI s=(s.sh[n]'(by omega)).au:=by simp[aI,hlast]
 have c3:w.cell? (Ad gg (n*36))=some (.i (aI s)):=by have:=h.fE hsv n (by omega) 0 (by omega);rw[ix]at this;rw[this,e];rfl
 obtain⟨c,hc⟩:=eX (aI s);rw[hn]at cZ hl;rw[hc]at c3⊢;have hz:(((n+1:Nat):Int)==0)=false:=by simp;omega
 have hz1:IntKind.i64.wrap ((n:Int)+1-1)=(n:Int):=by rw[aD ⟨by omega,by omega⟩];omega
 clear h ho hsv hn hc e hlast h0;go_enter Tryz.func92,Tryz.ntmps92;go_wp2;go_quiet (fail)
 go_wp2;go_ret;exact⟨rfl,by first|exact fR|exact fR.drew|exact fR.drewN _⟩
theorem qM{B:Nat}{w:World}{b:Nat}{q:Int}{s:aK}(h:aC B w b q s){j:Nat}{x:Sn}(hx:s.ss[j]?=some x):∃gg cap,s.sv=.slice (some (Ad gg 0)) s.ss.length cap∧s.ss.length≤cap∧w.cell? (Ad gg (j*4))=some (.i x.au)∧w.cell? (Ad gg (j*4+1))=some (.i x.time)∧w.cell? (Ad gg (j*4+3))=some (.i x.came):=by
 have hj:j<s.ss.length:=(df.1 hx).1;obtain⟨ao,cap,hsv⟩:=ah h.ss;have ho:=h.ss;rw[hsv]at ho;obtain⟨gg,hgg,hcap,hc⟩:=aB ho (by omega);subst hgg;have e:s.ss[j]=x:=by rw[dp hj]at hx;simpa using hx
 have h2:=iW s.ss j hj;rw[e]at h2;exact⟨gg,cap,hsv,hcap,by rw[hc _ (by omega)];exact h2.1,by rw[hc _ (by omega)];exact h2.2.1,by rw[hc _ (by omega)];exact h2.2.2.2⟩
theorem MB{B:Nat}{w:World}{b:Nat}{q:Int}{s:aK}(h:aC B w b q s){j:Nat}{x:Int×Int}(hx:s.ms[j]?=some x):∃gg cap,s.mv=.slice (some (Ad gg 0)) s.ms.length cap∧s.ms.length≤cap∧w.cell? (Ad gg (j*2+1))=some (.i x.2):=by
 have hj:j<s.ms.length:=(df.1 hx).1;obtain⟨ao,cap,hsv⟩:=ah h.ms;have ho:=h.ms;rw[hsv]at ho;obtain⟨gg,hgg,hcap,hc⟩:=aB ho (by omega);subst hgg;have e:s.ms[j]=x:=by rw[dp hj]at hx;simpa using hx
 have h2:=jE s.ms j hj;rw[e]at h2;exact⟨gg,cap,hsv,hcap,by rw[hc _ (by omega)];exact h2.2⟩
theorem Dv(B b:Nat)(q:Int)(s:aK)(g:Int)(j:Nat)(x:Sn)(w:World)(h:aC B w b q s)(hl:s.ss.length≤12)(hg:(g==0)=false)(hf:fi (λy:Sn=>y.au==g) 0 s.ss=(j:Int))(hx:s.ss[j]?=some x):
 Rc 54 #[.p b,.i g] w (.tuple #[.i x.came,.bool true]) λw'=>Fr [] w w':=by
 have HS:=aF B b q s g w h (by omega);rw[hf]at HS;have hj:j<s.ss.length:=(df.1 hx).1;have HH:=Hj2 h hx;obtain⟨n,hn⟩:=eX s.ss.length;have HN:=Hd hn;have hjn:(j:Int)<(n:Int):=by omega
 have j0:(0:Int)≤(j:Int):=by omega
 obtain⟨gg,cap,hsv,hcap,_,_,_⟩:=qM h hx;have HV:=Hd hsv;clear h hx hf hsv;rw[hn]at hcap hj hl;clear hn;go_enter Tryz.func54,Tryz.ntmps54;go_wp2_with (go_at_call 53;refine HS.mono ?_;rintro e w2 ⟨rfl,hfr⟩;have HR2:=Hj2 (HH.o.1.aA hfr) hfr;have c4:w2.cell? (Ad b 4)=some (.slice (some (Ad gg 0)) n cap):=(by rw[<-HN.o,<-HV.o];exact HR2.o.1.cells.2.2.2.1);have d3:w2.cell? (Ad gg (j*4+3))=some (.i x.came):=(by obtain⟨g',c',e',_,_,_,h5⟩:=qM HR2.o.1 HH.o.2;rw[HV.o]at e';have:gg=g':=(by simpa using(Value.slice.inj e').1);rw[this];exact h5);clear hfr);go_ret2;exact⟨rfl,HR2.o.2⟩
theorem Dw(B b:Nat)(q:Int)(s:aK)(g:Int)(j:Nat)(x:Int×Int)(w:World)(h:aC B w b q s)(hl:s.ss.length≤12)(hm:s.ms.length≤12)(hg:(g==0)=false)(hf:fi (λy:Sn=>y.au==g) 0 s.ss=-1)(hf2:fi (λy:Int×Int=>y.1==g) 0 s.ms=(j:Int))(hx:s.ms[j]?=some x):
 Rc 54 #[.p b,.i g] w (.tuple #[.i x.2,.bool true]) λw'=>Fr [] w w':=by
 have HS:=aF B b q s g w h (by omega);rw[hf]at HS;have HM:Hid (∀W,aC B W b q s->Rc 109 #[.p b,.i g] W (.i (j:Int)) λw'=>Fr [] W w'):=λW hW=>by have:=bF B b q s g W hW (by omega);rw[hf2]at this;exact this
 have hj:j<s.ms.length:=(df.1 hx).1;have HH:=Hj2 h hx;obtain⟨n,hn⟩:=eX s.ms.length;have HN:=Hd hn;have hjn:(j:Int)<(n:Int):=by omega
 have j0:(0:Int)≤(j:Int):=by omega
 obtain⟨gg,cap,hsv,hcap,_⟩:=MB h hx;have HV:=Hd hsv;clear h hx hf hf2 hsv;rw[hn]at hcap hj hm;clear hn;go_enter Tryz.func54,Tryz.ntmps54;go_wp2_with (first
  |(go_at_call 53;refine HS.mono ?_;rintro e w2 ⟨rfl,hfr⟩;have HR2:=Hj2 (HH.o.1.aA hfr) hfr;clear hfr)
  |(go_at_call 109;refine(HM.o _ HR2.o.1).mono ?_;rintro e w3 ⟨rfl,hfr⟩;have HR3:=Hj2 (HR2.o.1.aA hfr) (HR2.o.2.trans hfr (by simp));have c6:w3.cell? (Ad b 6)=some (.slice (some (Ad gg 0)) n cap):=(by rw[<-HN.o,<-HV.o];exact HR3.o.1.cells.2.2.2.2.2.1);have d3:w3.cell? (Ad gg (j*2+1))=some (.i x.2):=(by obtain⟨g',c',e',_,h5⟩:=MB HR3.o.1 HH.o.2;rw[HV.o]at e';have:gg=g':=(by simpa using(Value.slice.inj e').1);rw[this];exact h5);clear hfr))
 go_ret2;exact⟨rfl,HR3.o.2⟩
theorem Dx(B b:Nat)(q:Int)(s:aK)(g:Int)(w:World)(h:aC B w b q s)(hl:s.ss.length≤12)(hm:s.ms.length≤12)(hg:(g==0)=false)(hf:fi (λy:Sn=>y.au==g) 0 s.ss=-1)(hf2:fi (λy:Int×Int=>y.1==g) 0 s.ms=-1):
 Rc 54 #[.p b,.i g] w (.tuple #[.i 0,.bool false]) λw'=>Fr [] w w':=by
 have HS:=aF B b q s g w h (by omega);rw[hf]at HS;have HM:Hid (∀W,aC B W b q s->Rc 109 #[.p b,.i g] W (.i (-1)) λw'=>Fr [] W w'):=λW hW=>by have:=bF B b q s g W hW (by omega);rw[hf2]at this;exact this
 have HH:=Hd h;clear h hf hf2;go_enter Tryz.func54,Tryz.ntmps54;go_wp2_with (first
  |(go_at_call 53;refine HS.mono ?_;rintro e w2 ⟨rfl,hfr⟩;have HR2:=Hj2 (HH.o.aA hfr) hfr;clear hfr)
  |(go_at_call 109;refine(HM.o _ HR2.o.1).mono ?_;rintro e w3 ⟨rfl,hfr⟩;have HR3:=Hd (HR2.o.2.trans hfr (by simp));clear hfr))
 go_ret2;exact⟨rfl,HR3.o⟩
def gy(l:List Sn):Int:=(l.getLast?.map Sn.au).getD 0
theorem qL(B b:Nat)(q:Int)(s:aK)(w:World)(h:aC B w b q s)(hl:s.ss.length≤12):
 Rc 163 #[.p b] w (.i (gy s.ss)) λw'=>Fr [] w w':=by
 obtain⟨ao,cap,hsv⟩:=ah h.ss;have c4:w.cell? (Ad b 4)=some (.slice ao s.ss.length cap):=by rw[<-hsv];exact h.cells.2.2.2.1
 obtain⟨n,hn⟩:=eX s.ss.length;by_cases h0:n=0
 .subst h0;have e0:=ie hn;have e1:gy s.ss=0:=by rw[e0];rfl
  rw[e1];rw[hn]at c4;clear h hsv hn e0 e1;go_enter Tryz.func163,Tryz.ntmps163;go_wp2;go_ret;exact⟨rfl,fR⟩
 have hj:n-1<s.ss.length:=by omega
 have hx:=dp hj;obtain⟨gg,cap',Ns,hcap,d0,k1,k2⟩:=qM h hx;clear k1 k2;rw[hsv]at Ns;obtain⟨rfl,rfl⟩:ao=some (Ad gg 0)∧cap=cap':=by have:=Value.slice.inj Ns;exact⟨this.1,this.2.2⟩
 have e1:gy s.ss=s.ss[n-1].au:=by unfold gy;rw[kO,hn,hx];rfl
 rw[e1];obtain⟨g,hg⟩:=eX s.ss[n-1].au;rw[hg]at d0⊢;rw[hn]at c4 hcap;obtain⟨j,hjj⟩:=eX (n-1);rw[hjj]at d0;have q1:IntKind.i64.wrap ((n:Int)-1)=(j:Int):=by rw[show(n:Int)-1=(j:Int) by omega];exact aD ⟨by omega,by omega⟩
 have q2:(n:Int)-1=(j:Int):=by omega
 have q3:wrap64 (j:Int)=(j:Int):=qN ⟨by omega,by omega⟩;have j0:(0:Int)≤(j:Int):=by omega
 have j1:(j:Int)<(n:Int):=by omega
 have n0:¬(n:Int)=0:=by omega
 have n1:((n:Int)==0)=false:=by simpa using n0
 clear h hsv hn hj hx Ns e1 hg hjj;go_enter Tryz.func163,Tryz.ntmps163;go_wp2;go_region;all_goals
  go_wp2;go_ret;exact⟨rfl,fR.drew⟩
theorem xA(B b:Nat)(q:Int)(s:aK)(f t m:Int)(v:Value)(j:Nat)(w:World)(h:aC B w b q s)(hl:s.ss.length≤12)(hv:∃a n c,v=.slice a n c)(hf:fi (λy:Sn=>y.au==t) 0 s.ss=(j:Int)):
 Rc 126 #[.p b,.agg #[.i f,.i t,.i m,.i s.aL.length,v]] w (.i 7) λw'=>Fr [] w w':=by
 obtain⟨va,vn,vc,rfl⟩:=hv;obtain⟨bx,hbx⟩:=eX w.heap.size;obtain⟨w0,hw0⟩:=eX (w.alloc (.cells #[.i f,.i t,.i m,.i s.aL.length,.slice va vn vc] 161));have b0:w0.heap[bx]?=some (.cells #[.i f,.i t,.i m,.i s.aL.length,.slice va vn vc] 161 (0,0)):=by rw[<-hw0,<-hbx];exact di w _
 have F0:Fr [] w w0:=by rw[<-hw0];exact fR.alloc _
 have R0:=h.aA F0;have HB:Hid (w0.heap[bx]?=some (.cells #[.i f,.i t,.i m,.i s.aL.length,.slice va vn vc] 161 (0,0))∧Fr [] w w0∧aC B w0 b q s∧bx<w0.heap.size):=⟨b0,F0,R0,(cY.1 b0).1⟩;have HX:Hid (∀W,Fr [] w0 W->W.cell? (Ad bx 0)=some (.i f)∧W.cell? (Ad bx 1)=some (.i t)):=λW hW=>by have hh:=(hW.block bx (cY.1 b0).1 (by simp)).trans b0;exact⟨ce hh rfl,ce hh rfl⟩
 have e1:cE w0 bx 1 t:=(HX.o w0 fR).2;have e3:cE w0 bx 3 s.aL.length:=ce b0 rfl;have c3:cD w0 b 3 (.slice (some (Ad s.vb 0)) s.aL.length s.aL.length):=R0.cells.2.2.1;obtain⟨sa,sc,hsv⟩:=ah h.ss;have HV:=Hd hsv;have dV:=hw0;have HS:Hid (∀W,aC B W b q s->Rc 53 #[.p b,.i t] W (.i (j:Int)) λw'=>Fr [] W w'):=λW hW=>by have:=aF B b q s t W hW (by omega);rw[hf]at this;exact this
 obtain⟨nv,jR⟩:=eX s.aL.length;rw[jR]at e3 c3 dV HB⊢;have j0:(0:Int)≤(j:Int):=by omega
 clear h hw0 b0 F0 R0 hsv hf jR;go_enter Tryz.func126,Tryz.ntmps126;go_wp2;go_region;all_goals
  go_wp2_with (go_at_call 53;refine(HS.o _ (HB.o.2.2.1.aA fR.drew)).mono ?_;rintro e w2 ⟨rfl,hfr⟩;have HR2:=Hd ((HB.o.2.1.drew).trans hfr (by simp));clear hfr);go_ret;exact⟨rfl,HR2.o⟩
theorem zQ(B b:Nat)(q:Int)(s:aK)(f t m:Int)(v:Value)(w:World)(h:aC B w b q s)(hl:s.ss.length≤12)(hm:s.ms.length≤12)(hv:∃a n c,v=.slice a n c)(hf:fi (λy:Sn=>y.au==t) 0 s.ss=-1)(hf2:fi (λy:Int×Int=>y.1==t) 0 s.ms=-1)(E:Int)(hC:(f≠gy s.ss∧E=6)∨f=gy s.ss∧(s.ss.length=12∧E=5∨s.ss.length<12∧E=0)):
 Rc 126 #[.p b,.agg #[.i f,.i t,.i m,.i s.aL.length,v]] w (.i E) λw'=>Fr [] w w':=by
 obtain⟨va,vn,vc,rfl⟩:=hv;obtain⟨bx,hbx⟩:=eX w.heap.size;obtain⟨w0,hw0⟩:=eX (w.alloc (.cells #[.i f,.i t,.i m,.i s.aL.length,.slice va vn vc] 161));have b0:w0.heap[bx]?=some (.cells #[.i f,.i t,.i m,.i s.aL.length,.slice va vn vc] 161 (0,0)):=by rw[<-hw0,<-hbx];exact di w _
 have F0:Fr [] w w0:=by rw[<-hw0];exact fR.alloc _
 have R0:=h.aA F0;have HB:Hid (w0.heap[bx]?=some (.cells #[.i f,.i t,.i m,.i s.aL.length,.slice va vn vc] 161 (0,0))∧Fr [] w w0∧aC B w0 b q s∧bx<w0.heap.size):=⟨b0,F0,R0,(cY.1 b0).1⟩;have HX:Hid (∀W,Fr [] w0 W->W.cell? (Ad bx 0)=some (.i f)∧W.cell? (Ad bx 1)=some (.i t)):=λW hW=>by have hh:=(hW.block bx (cY.1 b0).1 (by simp)).trans b0;exact⟨ce hh rfl,ce hh rfl⟩
 have e1:cE w0 bx 1 t:=(HX.o w0 fR).2;have e3:cE w0 bx 3 s.aL.length:=ce b0 rfl;have c3:cD w0 b 3 (.slice (some (Ad s.vb 0)) s.aL.length s.aL.length):=R0.cells.2.2.1;obtain⟨sa,sc,hsv⟩:=ah h.ss;have HV:=Hd hsv;have dV:=hw0;have HS:Hid (∀W,aC B W b q s->Rc 53 #[.p b,.i t] W (.i (-1)) λw'=>Fr [] W w'):=λW hW=>by have:=aF B b q s t W hW (by omega);rw[hf]at this;exact this
 have HM:Hid (∀W,aC B W b q s->Rc 109 #[.p b,.i t] W (.i (-1)) λw'=>Fr [] W w'):=λW hW=>by have:=bF B b q s t W hW (by omega);rw[hf2]at this;exact this
 obtain⟨la,hla⟩:=eX (gy s.ss);have Fw:Hid (∀W,aC B W b q s->Rc 163 #[.p b] W (.i la) λw'=>Fr [] W w'):=λW hW=>by rw[<-hla];exact qL B b q s W hW (by omega)
 rw[hla]at hC;clear hla;obtain⟨nv,jR⟩:=eX s.aL.length;rw[jR]at e3 c3 dV HB⊢;obtain⟨ns,hns⟩:=eX s.ss.length;rw[hns]at hl HV hC;rcases hC with⟨hlast,rfl⟩|⟨hlast,⟨h12,rfl⟩|⟨h12,rfl⟩⟩
 case' inl=>have hne:(f==la)=false:=by simpa using hlast
 case' inr.inl=>
  have hne:(f==la)=true:=by simpa using hlast
  have hge:(12:Int)≤(ns:Int):=by omega
 case' inr.inr=>
  have hne:(f==la)=true:=by simpa using hlast
  have hge:¬(12:Int)≤(ns:Int):=by omega
 all_goals
  clear h hw0 b0 F0 R0 hsv hf hf2 jR hlast hns;go_enter Tryz.func126,Tryz.ntmps126;go_wp2;go_region;go_wp2_with (first
   |(go_at_call 53;refine(HS.o _ (HB.o.2.2.1.aA fR.drew)).mono ?_;rintro e w2 ⟨rfl,hfr⟩;have HR2:Hid (Fr [] w0 w2∧aC B w2 b q s):=⟨((Fr.refl [] w0).drew).trans hfr (by simp),(HB.o.2.2.1.aA fR.drew).aA hfr⟩;have x2:=(HX.o w2 HR2.o.1).2;clear hfr)
   |(go_at_call 109;refine(HM.o _ HR2.o.2).mono ?_;rintro e w3 ⟨rfl,hfr⟩;have HR3:=Hj2 (HR2.o.1.trans hfr (by simp)) (HR2.o.2.aA hfr);clear hfr))
  have dd:=(HX.o w3 HR3.o.1).1;go_region_held3 (λw'=>w'.cell? (Ad bx 0)=some (.i f))
   (first
     |go_keep
     |exact dd
     |exact(HX.o _ HR4.o.1).1)
   (first
     |(go_at_call 163;refine(Fw.o _ (HR3.o.2.aA fR.drew)).mono ?_;rintro e w4 ⟨rfl,hfr⟩;have HR4:Hid (Fr [] w0 w4∧aC B w4 b q s):=⟨(HR3.o.1.drew).trans hfr (by simp),(HR3.o.2.aA fR.drew).aA hfr⟩;have c44:w4.cell? (Ad b 4)=some (.slice sa ns sc):=(by rw[<-HV.o];exact HR4.o.2.cells.2.2.2.1);clear hfr))
  all_goals
   go_wp2;go_ret;exact⟨rfl,HB.o.2.1.trans HR4.o.1 (by simp)⟩
def qK(s:aK)(g c:Int)(k:Nat):List (Int×B4):=(List.range k).filterMap λi:Nat=>if c≤(s.th g (i:Int)).n then some ((i:Int),(s.th g (i:Int)).x)else none
theorem Mf{s:aK}{g c:Int}{k:Nat}(h:c≤(s.th g (k:Int)).n):qK s g c (k+1)=qK s g c k++[((k:Int),(s.th g (k:Int)).x)]:=by simp[qK,jn,h]
theorem Qd{s:aK}{g c:Int}{k:Nat}(h:¬c≤(s.th g (k:Int)).n):qK s g c (k+1)=qK s g c k:=by simp[qK,jn,h]
theorem Mg(s:aK)(g c:Int)(k:Nat):(qK s g c k).length≤k:=by have:=List.length_filterMap_le (λi:Nat=>if c≤(s.th g (i:Int)).n then some ((i:Int),(s.th g (i:Int)).x)else none) (List.range k);simpa[qK]using this
theorem wH:(Tryz.prog.info? 165).map (λi=>(i.zero,i.size,i.bytes))=some (some (.agg #[.i 0,.u 0,.u 0,.u 0,.u 0]),5,16):=by kernel_rfl
structure J5(B b:Nat)(s:aK)(w wr:World)(bx:Nat)(f t m nb:Int)(vf:Value)(l:List (Int×B4)):Prop where
 rep:aC B wr b 1 s
 fr:Fr (foot b s) w wr
 box:wr.heap[bx]?=some (.cells #[.i f,.i t,.i m,.i nb,vf] 161 (0,0))
 row:wr.ownsRow bx 165 5 vf l.length (jw l)
 le:w.heap.size≤bx
theorem J5.alloc{B b:Nat}{s:aK}{w wr:World}{bx:Nat}{f t m nb:Int}{vf:Value}{l:List (Int×B4)}(h:J5 B b s w wr bx f t m nb vf l)(o:Obj):J5 B b s w (wr.alloc o) bx f t m nb vf l:=
 ⟨h.rep.aA (fR.alloc _),h.fr.alloc _,by rw[ei _ _ _ (cY.1 h.box).1];exact h.box,h.row.alloc _,h.le⟩
theorem J5.push{B b:Nat}{s:aK}{w wr w9:World}{bx:Nat}{f t m nb:Int}{vf v9:Value}{l:List (Int×B4)}{x:Int×B4}(h:J5 B b s w wr bx f t m nb vf l)(ho:w9.ownsRow bx 165 5 v9 (l.length+1) (jw l++Pn x))(hg:wr.grownBy w9 vf.ownBlock):
 J5 B b s w (w9.setCell (Ad bx 4) v9) bx f t m nb v9 (l++[x])∧w9.cell? (Ad bx 4)=some vf∧w9.frozen? (Ad bx 4)=false:=by
 have hne:vf.ownBlock≠some bx:=λe=>by obtain⟨_,cur,h2⟩:=av h.row e;rw[h.box]at h2;simp at h2
 have hlt:=(cY.1 h.box).1;have IX:w9.heap[bx]?=some (.cells #[.i f,.i t,.i m,.i nb,vf] 161 (0,0)):=by rw[hg.block bx hlt (Ne.symm hne)];exact h.box
 have iR:∀k,v9.ownBlock=some k->k≠bx:=λk hk e=>by obtain⟨_,cur,h2⟩:=av ho hk;rw[e,IX]at h2;simp at h2
 have hwb:w.heap.size≤bx:=h.le;have f9:=h.fr.grown hg (λk hk=>Or.inr (eJ hwb (h.row.lt k hk).1));have hnf:bx∉foot b s:=λhm=>by
  have hh:=h.box;simp only[foot,dT,ek,fy,or_false,gd]at hm;rcases hm with(((rfl|rfl|rfl)|h1)|h1)|h1
  .have:=h.rep.blk;rw[hh]at this;simp[aK.blk]at this
  .have:=h.rep.aL;rw[hh]at this;simp at this
  .obtain⟨es,c,h2⟩:=h.rep.th.at
   rw[hh]at h2;simp at h2
  .obtain⟨_,cur,h2⟩:=av h.rep.ss h1;rw[hh]at h2;simp at h2
  .obtain⟨_,cur,h2⟩:=av h.rep.ms h1;rw[hh]at h2;simp at h2
  obtain⟨_,cur,h2⟩:=av h.rep.lg h1;rw[hh]at h2;simp at h2
 have hvf:∀k,vf.ownBlock=some k->k∉foot b s:=λk hk hm=>by
  obtain⟨_,cur,hh⟩:=av h.row hk;simp only[foot,dT,ek,fy,or_false,gd]at hm;rcases hm with(((rfl|rfl|rfl)|h1)|h1)|h1
  .have:=h.rep.blk;rw[hh]at this;simp[aK.blk]at this
  .have:=h.rep.aL;rw[hh]at this;simp at this
  .obtain⟨es,c,h2⟩:=h.rep.th.at
   rw[hh]at h2;simp at h2
  .obtain⟨_,cur,h2⟩:=av h.rep.ss h1;rw[hh]at h2;simp at h2
  .obtain⟨_,cur,h2⟩:=av h.rep.ms h1;rw[hh]at h2;simp at h2
  obtain⟨_,cur,h2⟩:=av h.rep.lg h1;rw[hh]at h2;simp at h2
 refine⟨⟨?_,f9.setCell _ (Or.inr hwb),?_,?_,hwb⟩,?_,ay IX _⟩
 .refine h.rep.mD (λk hk=>?_);rw[de _ _ _ _ (λe=>hnf (by have:k=bx:=e;rw[<-this];exact hk))];exact hg.block k (h.rep.lt k hk).2 (λe=>hvf k e.symm hk)
 .rw[dy w9 bx 4 _ _ _ IX];rfl
 .have e:jw (l++[x])=jw l++Pn x:=by simp[jw]
  rw[e,dE];exact aj ho (λk hk=>de _ _ _ _ (iR k hk))
 rw[cell_of IX];rfl
theorem Mh(B b:Nat)(s:aK)(f t c:Int)(j:Nat)(x:Sn)(w:World)(h:aC B w b 0 s)(hl:s.ss.length≤12)(hv:s.aL.length≤16)(ht:In64 t)(hf:fi (λy:Sn=>y.au==t) 0 s.ss=(j:Int))(hx:s.ss[j]?=some x)
 (hc:∀W,aC B W b 1 s->Rc 54 #[.p b,.i f] W (.tuple #[.i c,.bool true]) λw'=>Fr [] W w')(hcx:c<x.came):
 Rc 30 #[.p b,.i f,.i t] w (.tuple #[.t (dN f t x.time s.aL.length (qK s t c s.aL.length)),.i 0]) λw'=>aC B w' b 0 s∧Fr (foot b s) w w':=by
 obtain⟨i0,hi,hz0,hz1,hz2⟩:=info_parts wH;have R1:=h.lock 1;obtain⟨w1,hw1⟩:=eX (w.setCell (Ad b 0) (.int .i32 1));rw[hw1]at R1;have hj:j<s.ss.length:=(df.1 hx).1;have HL:=lock_free Tryz.muLib (Ad b 0) w h.cells.1 (h.frozen 0);have F1:Fr (foot b s) w w1:=by rw[<-hw1];exact aV b s w _
 have HF:=Hj4 hw1 R1 F1 hx;have HS:=aF B b 1 s t w1 R1 (by omega);rw[hf]at HS;have HC:=Hd hc;obtain⟨gg,cap,hsv,hcap,_,_,_⟩:=qM h hx;obtain⟨n,hn⟩:=eX s.ss.length;have HV:Hid (s.sv=.slice (some (Ad gg 0)) n cap∧s.ss.length=n):=⟨by rw[hsv,hn],hn⟩;have hjn:(j:Int)<(n:Int):=by omega
 have j0:¬((j:Int)<0):=by omega
 have pW:Hid (∀W,aC B W b 1 s->W.cell? (Ad b 4)=some (.slice (some (Ad gg 0)) n cap)∧W.cell? (Ad gg (j*4+1))=some (.i x.time)∧W.cell? (Ad gg (j*4+3))=some (.i x.came)):=λW hW=>by
  obtain⟨g',c',e',_,_,h4,h5⟩:=qM hW hx;rw[hsv]at e';have e2:gg=g':=by simpa using(Value.slice.inj e').1
  refine⟨by rw[<-hn,<-hsv];exact hW.cells.2.2.2.1,by rw[e2];exact h4,by rw[e2];exact h5⟩
 have t1:¬(x.came≤c):=by omega
 obtain⟨nv,jR⟩:=eX s.aL.length;have PZ:=Hd jR;obtain⟨xt,hxt⟩:=eX x.time;obtain⟨xc,hxc⟩:=eX x.came;rw[hxt,hxc]at pW;rw[hxc]at t1;rw[jR]at hv⊢;rw[hxt];rw[hn]at hcap;clear h R1 F1 hw1 hf hx hc hsv hn jR hxt hxc hcx;go_enter_defers Tryz.func30,Tryz.ntmps30;go_wp2_with (first
  |(go_at_call 50;refine HL.mono ?_;rintro e w' ⟨rfl,hw'⟩;rw[HF.o.1]at hw';have hw':=hw'.symm;subst hw')
  |(go_at_call 53;refine HS.mono ?_;rintro e w2 ⟨rfl,hfr⟩;have HR2:=Hj2 (HF.o.2.1.aA hfr) (HF.o.2.2.1.trans hfr (by simp));clear hfr)
  |(go_at_call 54;refine(HC.o _ HR2.o.1).mono ?_;rintro e w3 ⟨rfl,hfr⟩;have HR3:=Hj2 (HR2.o.1.aA hfr) (HR2.o.2.trans hfr (by simp));have c4:=(pW.o _ HR3.o.1).1;have d1:=(pW.o _ HR3.o.1).2.1;have d3:=(pW.o _ HR3.o.1).2.2;have c3:w3.cell? (Ad b 3)=some (.slice (some (Ad s.vb 0)) nv nv):=(by rw[<-PZ.o];exact HR3.o.1.cells.2.2.1);have lb:b<w3.heap.size:=dm _ _ c3;have lgg:gg<w3.heap.size:=dm _ _ d1;clear hfr))
 refine wp_region_noPanic ?_;go_region;refine NoPanic.normal ?_;obtain⟨bx,hbx⟩:=eX w3.heap.size;have HJ:Hid (J5 B b s w (w3.alloc (.cells #[.i f,.i t,.i xt,.i nv,.slice none 0 0] 161)).drew bx f t xt nv (.slice none 0 0) []):=by refine⟨HR3.o.1.aA (fR.alloc _).drew,(HR3.o.2.alloc _).drew,?_,eA _ _ _ _,by rw[<-hbx];exact HR3.o.2.size⟩;rw[<-hbx];exact di w3 _
 obtain⟨W4,iI⟩:=eX (w3.alloc (.cells #[.i f,.i t,.i xt,.i nv,.slice none 0 0] 161)).drew;rw[iI]at HJ;rw[iI,hbx];clear iI hbx c4 d1 d3 c3 lb lgg HC HS;have c3:W4.cell? (Ad b 3)=some (.slice (some (Ad s.vb 0)) nv nv):=by rw[<-PZ.o];exact HJ.o.rep.cells.2.2.1
 go_wp2;go_loopw [68] (λi wr=>∃(k:Nat)(vf:Value),k≤nv∧i=.i k∧Hid (J5 B b s w wr bx f t xt nv vf (qK s t c k))) (λi _=>nv-(intOf i).toNat)
 case atStart=>exact⟨0,_,dC _,rfl,HJ⟩
 obtain⟨k,vf,hk,rfl,HK⟩:=hrel;obtain⟨W3,hW3⟩:=eY wr;subst hW3;clear HJ c3;have hll:=Mg s t c k;obtain⟨L,hL⟩:=eX (qK s t c k).length;obtain⟨fa,fc,hsh⟩:=ah HK.o.row;rw[hL]at hsh hll;subst hsh;have Q8:=Hd hL;clear hL;by_cases hlt:k<nv
 .have hltz:(k:Int)<(nv:Int):=by omega
  have j5:cD W3 b 5 (.map (some s.mb)):=HK.o.rep.cells.2.2.2.2.1;have PL:=HK.o.rep.look ht (i:=(k:Int)) ⟨by omega,by omega⟩;obtain⟨y,hy⟩:=eX (s.th t (k:Int));rw[hy]at PL;have lk:(Instr.lookup 132 (.map (some s.mb)) (.agg #[.i t,.i k]) false).run Tryz.prog W3=.ok (.agg #[.u (y.x.a.toNat:Int),.u (y.x.b.toNat:Int),.u (y.x.c.toNat:Int),.u (y.x.d.toNat:Int),.i y.n]) W3:=PL;have HY:=Hd hy;have x4:cD W3 bx 4 (.slice fa L fc):=ce HK.o.box rfl;have lbx:bx<W3.heap.size:=dm _ _ x4;clear PL hy;by_cases hcy:c≤y.n
  .have zM:Hid (∀j u,[Value.i (k:Int),.u (y.x.a.toNat:Int),.u (y.x.b.toNat:Int),.u (y.x.c.toNat:Int),.u (y.x.d.toNat:Int)][j]?=some u->((W3.alloc (.cells #[.u (y.x.a.toNat:Int),.u (y.x.b.toNat:Int),.u (y.x.c.toNat:Int),.u (y.x.d.toNat:Int),.i y.n] 155)).alloc (.cells #[.i (k:Int),.u (y.x.a.toNat:Int),.u (y.x.b.toNat:Int),.u (y.x.c.toNat:Int),.u (y.x.d.toNat:Int)] 165)).cell? (((Ad (W3.heap.size+1) 0):Addr).add j)=some u):=by have:=di (W3.alloc (.cells #[.u (y.x.a.toNat:Int),.u (y.x.b.toNat:Int),.u (y.x.c.toNat:Int),.u (y.x.d.toNat:Int),.i y.n] 155)) (.cells #[.i (k:Int),.u (y.x.a.toNat:Int),.u (y.x.b.toNat:Int),.u (y.x.c.toNat:Int),.u (y.x.d.toNat:Int)] 165);rw[show(W3.alloc (.cells #[.u (y.x.a.toNat:Int),.u (y.x.b.toNat:Int),.u (y.x.c.toNat:Int),.u (y.x.d.toNat:Int),.i y.n] 155)).heap.size=W3.heap.size+1 by simp]at this;exact World.news_of_block (cs:=#[.i (k:Int),.u (y.x.a.toNat:Int),.u (y.x.b.toNat:Int),.u (y.x.c.toNat:Int),.u (y.x.d.toNat:Int)]) (t:=165) (fr:=(0,0)) this
   have jy:Hid (W3.ownsRow bx 165 5 (.slice fa L fc) L (jw (qK s t c k))):=by have:=HK.o.row;rw[Q8.o]at this;exact this
   go_wp2_with (at_builtin;refine wpList_append_own _ rfl _ _ 159 rfl bx 165 i0 _ 5 16 Tryz.underlying159 hi hz0 hz1 hz2 rfl (by omega) (.slice fa L fc) L (jw (qK s t c k)) rfl ((jy.o.alloc _).alloc _) (Ad (W3.heap.size+1) 0) 1 1 [.i (k:Int),.u (y.x.a.toNat:Int),.u (y.x.b.toNat:Int),.u (y.x.c.toNat:Int),.u (y.x.d.toNat:Int)] rfl rfl zM.o (by simp[Value.oneCell']) (by unfold maxLen;omega) (by omega) (by simp;omega) ?_;intro v9 w9 aH aJ iR;obtain⟨a9,k9,ni⟩:=ah aH;subst ni;have HP:=((HK.o.alloc (.cells #[.u (y.x.a.toNat:Int),.u (y.x.b.toNat:Int),.u (y.x.c.toNat:Int),.u (y.x.d.toNat:Int),.i y.n] 155)).alloc (.cells #[.i (k:Int),.u (y.x.a.toNat:Int),.u (y.x.b.toNat:Int),.u (y.x.c.toNat:Int),.u (y.x.d.toNat:Int)] 165)).push (x:=((k:Int),y.x)) (by rw[Q8.o];exact aH) aJ;have H9:=Hd HP.1;have x9:=HP.2.1;have z9:=HP.2.2;clear HP aH aJ iR);go_roundw
   case rel=>exact⟨k+1,_,by omega,by go_num,by
    have e:qK s t c (k+1)=qK s t c k++[((k:Int),y.x)]:=by rw[Mf (by rw[HY.o];exact hcy),HY.o]
    rw[e];exact H9⟩
   simp[intOf];omega
  have H9:Hid (J5 B b s w (W3.alloc (.cells #[.u (y.x.a.toNat:Int),.u (y.x.b.toNat:Int),.u (y.x.c.toNat:Int),.u (y.x.d.toNat:Int),.i y.n] 155)) bx f t xt nv (.slice fa L fc) (qK s t c (k+1))):=by rw[Qd (by rw[HY.o];exact hcy)];exact HK.o.alloc _
  go_wp2;go_roundw
  case rel=>exact⟨k+1,_,by omega,by go_num,H9⟩
  simp[intOf];omega
 have hkk:k=nv:=by omega
 subst hkk;have HT:=Hd (Jw f t xt k (qK s t c k) (.slice fa L fc) bx W3 HK.o.row (by rw[Q8.o];omega));have y0:cE W3 bx 0 f:=ce HK.o.box rfl;have y1:cE W3 bx 1 t:=ce HK.o.box rfl;have y2:cE W3 bx 2 xt:=ce HK.o.box rfl;have y3:cE W3 bx 3 k:=ce HK.o.box rfl;have y4:cD W3 bx 4 (.slice fa L fc):=ce HK.o.box rfl;obtain⟨st,hst⟩:=eX (dN f t xt k (qK s t c k));rw[hst]at HT;have HST:=Hd hst;clear hst;go_wp2_with (go_at_call 55;refine HT.o.mono ?_;rintro e w6 ⟨rfl,f6⟩;have dJ:=Hj2 (HK.o.rep.aA f6) (HK.o.fr.trans f6 (by simp));clear f6);refine leaves_cons (f:=51) (args:=#[.p b]) (by simp) (by simp[go_sem]) ?_;refine(eK Tryz.muLib (Ad b 0) .returning _ dJ.o.1.cells.1 (dJ.o.1.frozen 0)).mono ?_;rintro e u' w'' ⟨rfl,rfl,rfl⟩;exact⟨_,ft rfl _ _ _,by rw[HST.o];rfl,dJ.o.1.lock 0,dJ.o.2.setCell _ (Or.inl (by simp[foot]))⟩
theorem Fb(B b:Nat)(s:aK)(f t:Int)(j:Nat)(w:World)(h:aC B w b 0 s)(hl:s.ss.length≤12)(hf:fi (λy:Sn=>y.au==t) 0 s.ss=(j:Int))
 (hc:∀W,aC B W b 1 s->Rc 54 #[.p b,.i f] W (.tuple #[.i 0,.bool false]) λw'=>Fr [] W w'):
 Rc 30 #[.p b,.i f,.i t] w (.tuple #[.t ⟨#[]⟩,.i 3]) λw'=>aC B w' b 0 s∧Fr (foot b s) w w':=by
 have R1:=h.lock 1;obtain⟨w1,hw1⟩:=eX (w.setCell (Ad b 0) (.int .i32 1));rw[hw1]at R1;have HL:=lock_free Tryz.muLib (Ad b 0) w h.cells.1 (h.frozen 0);have F1:Fr (foot b s) w w1:=by rw[<-hw1];exact aV b s w _
 have HF:=Hj3 hw1 R1 F1;have HS:=aF B b 1 s t w1 R1 (by omega);rw[hf]at HS;have HC:=Hd hc;have j0:¬((j:Int)<0):=by omega
 clear h R1 F1 hw1 hf hc;go_enter_defers Tryz.func30,Tryz.ntmps30;go_wp2_with (first
  |(go_at_call 50;refine HL.mono ?_;rintro e w' ⟨rfl,hw'⟩;rw[HF.o.1]at hw';have hw':=hw'.symm;subst hw')
  |(go_at_call 53;refine HS.mono ?_;rintro e w2 ⟨rfl,hfr⟩;have HR2:=Hj2 (HF.o.2.1.aA hfr) (HF.o.2.2.trans hfr (by simp));clear hfr)
  |(go_at_call 54;refine(HC.o _ HR2.o.1).mono ?_;rintro e w3 ⟨rfl,hfr⟩;have HR3:=Hj2 (HR2.o.1.aA hfr) (HR2.o.2.trans hfr (by simp));clear hfr))
 refine leaves_cons (f:=51) (args:=#[.p b]) (by simp) (by simp[go_sem]) ?_;refine(eK Tryz.muLib (Ad b 0) .returning _ HR3.o.1.cells.1 (HR3.o.1.frozen 0)).mono ?_;rintro e u' w'' ⟨rfl,rfl,rfl⟩;exact⟨_,ft rfl _ _ _,rfl,HR3.o.1.lock 0,HR3.o.2.setCell _ (Or.inl (by simp[foot]))⟩
theorem Jy(B b:Nat)(s:aK)(f t c:Int)(j:Nat)(x:Sn)(w:World)(h:aC B w b 0 s)(hl:s.ss.length≤12)(hf:fi (λy:Sn=>y.au==t) 0 s.ss=(j:Int))(hx:s.ss[j]?=some x)
 (hc:∀W,aC B W b 1 s->Rc 54 #[.p b,.i f] W (.tuple #[.i c,.bool true]) λw'=>Fr [] W w')(hcx:x.came≤c):
 Rc 30 #[.p b,.i f,.i t] w (.tuple #[.t ⟨#[]⟩,.i 1]) λw'=>aC B w' b 0 s∧Fr (foot b s) w w':=by
 have R1:=h.lock 1;obtain⟨w1,hw1⟩:=eX (w.setCell (Ad b 0) (.int .i32 1));rw[hw1]at R1;have hj:j<s.ss.length:=(df.1 hx).1;have HL:=lock_free Tryz.muLib (Ad b 0) w h.cells.1 (h.frozen 0);have F1:Fr (foot b s) w w1:=by rw[<-hw1];exact aV b s w _
 have HF:=Hj4 hw1 R1 F1 hx;have HS:=aF B b 1 s t w1 R1 (by omega);rw[hf]at HS;have HC:=Hd hc;obtain⟨gg,cap,hsv,hcap,_,_,_⟩:=qM h hx;obtain⟨n,hn⟩:=eX s.ss.length;have hjn:(j:Int)<(n:Int):=by omega
 have j0:¬((j:Int)<0):=by omega
 have pW:Hid (∀W,aC B W b 1 s->W.cell? (Ad b 4)=some (.slice (some (Ad gg 0)) n cap)∧W.cell? (Ad gg (j*4+3))=some (.i x.came)):=λW hW=>by
  obtain⟨g',c',e',_,_,h4,h5⟩:=qM hW hx;rw[hsv]at e';have e2:gg=g':=by simpa using(Value.slice.inj e').1
  refine⟨by rw[<-hn,<-hsv];exact hW.cells.2.2.2.1,by rw[e2];exact h5⟩
 obtain⟨xc,hxc⟩:=eX x.came;rw[hxc]at pW hcx;rw[hn]at hcap;clear h R1 F1 hw1 hf hx hc hsv hn hxc;go_enter_defers Tryz.func30,Tryz.ntmps30;go_wp2_with (first
  |(go_at_call 50;refine HL.mono ?_;rintro e w' ⟨rfl,hw'⟩;rw[HF.o.1]at hw';have hw':=hw'.symm;subst hw')
  |(go_at_call 53;refine HS.mono ?_;rintro e w2 ⟨rfl,hfr⟩;have HR2:=Hj2 (HF.o.2.1.aA hfr) (HF.o.2.2.1.trans hfr (by simp));clear hfr)
  |(go_at_call 54;refine(HC.o _ HR2.o.1).mono ?_;rintro e w3 ⟨rfl,hfr⟩;have HR3:=Hj2 (HR2.o.1.aA hfr) (HR2.o.2.trans hfr (by simp));have c4:=(pW.o _ HR3.o.1).1;have d3:=(pW.o _ HR3.o.1).2;clear hfr))
 refine leaves_cons (f:=51) (args:=#[.p b]) (by simp) (by simp[go_sem]) ?_;refine(eK Tryz.muLib (Ad b 0) .returning _ HR3.o.1.cells.1 (HR3.o.1.frozen 0)).mono ?_;rintro e u' w'' ⟨rfl,rfl,rfl⟩;exact⟨_,ft rfl _ _ _,rfl,HR3.o.1.lock 0,HR3.o.2.setCell _ (Or.inl (by simp[foot]))⟩
theorem pz(r:RS)(k:Nat):eu r (k+1)=((eu r k).1++[((bq (dU (eu r k).2.1 1).data.toList:Int),b4 (dU (je (eu r k).2 1).1 4))],je (je (eu r k).2 1) 4):=rfl
theorem nZ(x:cC)(h:x.size≤1):bq x.data.toList<256:=by
 have hl:x.data.toList.length≤1:=by rw[fk];exact h
 have:=kM x.data.toList x.data.toList.length (eh _);rw[kf]at this;have h2:256^x.data.toList.length≤256^1:=Nat.pow_le_pow_right (by omega) hl;omega
theorem Ey(t:cC)(w:World)(ht:t.size≤2000000)(h5:5≤t.size)(hc:((t.extract (bW t) t.size).toList==(kE (t.extract 0 (bW t)).data.toList).ba.toList)=true)(ok mb:Bool)
 (h1:ok=true↔dU (t.extract 0 (bW t)) 4=⟨#[83,78,68,49]⟩∧(qe (t.extract 0 (bW t))).2=false∧(qe (t.extract 0 (bW t))).1.size=0∧mb=true)
 (h2:∀W v,W.ownsRow w.heap.size 165 5 v (ql (t.extract 0 (bW t))).length (jw (ql (t.extract 0 (bW t))))->Rc 162 #[.agg #[.i (qf (t.extract 0 (bW t)):Int),.i (qt (t.extract 0 (bW t)):Int),.i (qm (t.extract 0 (bW t)):Int),.i (qb (t.extract 0 (bW t)):Int),v]] W (.bool mb) λw'=>Fr [] W w'):
 Cl 125 #[.t t] w λe w'=>(ok=false->e=.returned (.tuple #[jZ,.bool false]))∧(ok=true->∃v,e=.returned (.tuple #[.agg #[.i (qf (t.extract 0 (bW t)):Int),.i (qt (t.extract 0 (bW t)):Int),.i (qm (t.extract 0 (bW t)):Int),.i (qb (t.extract 0 (bW t)):Int),v],.bool true])∧w'.ownsRow w.heap.size 165 5 v (ql (t.extract 0 (bW t))).length (jw (ql (t.extract 0 (bW t)))))∧Fr [] w w':=by
 obtain⟨i0,hi,hz0,hz1,hz2⟩:=info_parts wH;obtain⟨c,hcc⟩:=eX (bW t);have hce:c=t.size-4:=by rw[<-hcc];rfl
 rw[hcc]at hc h1 h2⊢;have HC:Hid (∀W,Rc 111 #[.t (t.extract 0 c)] W (.t (kE (t.extract 0 c).data.toList).ba) λw'=>Fr [] W w'):=λW=>jF _ W (by rw[eo];omega);obtain⟨ck,hck⟩:=eX (kE (t.extract 0 c).data.toList).ba;rw[hck]at HC hc;obtain⟨n,hn⟩:=eX t.size;rw[hn]at hce hc ht h5;have c0:(0:Int)≤(c:Int):=by omega
 have c1:(c:Int)≤(n:Int):=by omega
 have hnc:(n:Int)-4=(c:Int):=by omega
 have Ue:¬(c:Int)≤0:=by omega
 have Nb:(0:Int)<(c:Int):=by omega
 obtain⟨w0,hw0⟩:=eX (w.alloc (.cells #[.i 0,.i 0,.i 0,.i 0,.slice none 0 0] 161));obtain⟨bx,hbx⟩:=eX w.heap.size;have b0:w0.heap[bx]?=some z116:=by rw[<-hw0,<-hbx];exact di w _
 have HB:Hid (w0.heap[bx]?=some z116∧Fr [] w w0∧w.heap.size=bx∧(t.extract 0 c).size≤2000000):=⟨b0,by rw[<-hw0];exact fR.alloc _,hbx,by rw[eo];omega⟩;have Ku:Hid (∀W,Rc 128 #[.t (t.extract 0 c)] W (.p W.heap.size) λw'=>gQ w' W.heap.size (t.extract 0 c) false∧Fr [] W w'):=λW=>jO _ W;have HT0:Hid (∀W rb,PJ w W bx rb ((t.extract 0 c),false)->Rc 132 #[.p rb,.i 4] W (.t (dU (t.extract 0 c) 4)) λw'=>PJ w w' bx rb (q1 (t.extract 0 c))∧Fr [rb] W w'):=λW rb h=>h.text;have CJ:Hid (∀W rb,PJ w W bx rb (q1 (t.extract 0 c))->Rc 130 #[.p rb] W (.i (qf (t.extract 0 c):Int)) λw'=>PJ w w' bx rb (q2 (t.extract 0 c))∧Fr [rb] W w'):=λW rb h=>h.number;have DJ:Hid (∀W rb,PJ w W bx rb (q2 (t.extract 0 c))->Rc 130 #[.p rb] W (.i (qt (t.extract 0 c):Int)) λw'=>PJ w w' bx rb (q3 (t.extract 0 c))∧Fr [rb] W w'):=λW rb h=>h.number;have Pw:Hid (∀W rb,PJ w W bx rb (q3 (t.extract 0 c))->Rc 130 #[.p rb] W (.i (qm (t.extract 0 c):Int)) λw'=>PJ w w' bx rb (q4 (t.extract 0 c))∧Fr [rb] W w'):=λW rb h=>h.number;have Px:Hid (∀W rb,PJ w W bx rb (q4 (t.extract 0 c))->Rc 129 #[.p rb] W (.i (qb (t.extract 0 c):Int)) λw'=>PJ w w' bx rb (q5 (t.extract 0 c))∧Fr [rb] W w'):=λW rb h=>h.byte;have Py:Hid (∀W rb bs f t' m nb vf l,PK w W bx rb bs (q5 (t.extract 0 c)) f t' m nb vf l->Rc 129 #[.p rb] W (.i (qn (t.extract 0 c):Int)) λw'=>PK w w' bx rb bs (q6 (t.extract 0 c)) f t' m nb vf l):=λW rb bs f t' m nb vf l h=>h.pj.byte.mono λ_ _⟨e,a,b⟩=>⟨e,h.read a b⟩;have Cz:qn (t.extract 0 c)<256:=nZ _ (gK _ 1);have HQ:Hid (((eu (q6 (t.extract 0 c)) (qn (t.extract 0 c))).1=ql (t.extract 0 c))∧(eu (q6 (t.extract 0 c)) (qn (t.extract 0 c))).2=qe (t.extract 0 c)):=⟨rfl,rfl⟩;have Ba:Hid ((ok=true↔dU (t.extract 0 c) 4=⟨#[83,78,68,49]⟩∧(qe (t.extract 0 c)).2=false∧(qe (t.extract 0 c)).1.size=0∧mb=true)∧(∀W v,W.ownsRow w.heap.size 165 5 v (ql (t.extract 0 c)).length (jw (ql (t.extract 0 c)))->Rc 162 #[.agg #[.i (qf (t.extract 0 c):Int),.i (qt (t.extract 0 c):Int),.i (qm (t.extract 0 c):Int),.i (qb (t.extract 0 c):Int),v]] W (.bool mb) λw'=>Fr [] W w')):=⟨h1,h2⟩;obtain⟨fv,IK⟩:=eX (qf (t.extract 0 c));obtain⟨tv,oI⟩:=eX (qt (t.extract 0 c));obtain⟨mv,hmv⟩:=eX (qm (t.extract 0 c));obtain⟨nv,jR⟩:=eX (qb (t.extract 0 c));obtain⟨N,hN⟩:=eX (qn (t.extract 0 c));obtain⟨r6,Pz⟩:=eX (q6 (t.extract 0 c));obtain⟨lL,IL⟩:=eX (ql (t.extract 0 c));rw[IK]at CJ;rw[oI]at DJ;rw[hmv]at Pw;rw[jR]at Px;rw[hN,Pz]at Py;rw[hN]at Cz;rw[hN,Pz,IL]at HQ;rw[IK,oI,hmv,jR,IL]at Ba;rw[IK,oI,hmv,jR,IL];have dV:=hw0;clear hw0 b0 hck hcc hce h1 h2 IK oI hmv jR hN Pz IL;go_enter Tryz.func125,Tryz.ntmps125;go_wp2;go_region_with
  (first
    |(go_at_call 111;refine(HC.o _).mono ?_;rintro e w5 ⟨rfl,f5⟩;have F5:Hid (Fr [] w0 w5):=((Fr.refl [] w0).drew).tr f5;clear f5))
 go_wp2_with (first
  |(go_at_call 128;refine(Ku.o _).mono ?_;rintro e w6 ⟨rfl,r6,f6⟩;have H6:Hid (PJ w w6 bx w5.heap.size ((t.extract 0 c),false)):=⟨r6,(HB.o.2.1.tr F5.o).tr f6,(by rw[(F5.o.tr f6).block bx (cY.1 HB.o.1).1 (by simp)];exact HB.o.1),(HB.o.2.1.tr F5.o).size,HB.o.2.2.2⟩;clear r6 f6)
  |(go_at_call 132;refine(HT0.o _ _ H6.o).mono ?_;rintro e w7 ⟨rfl,r7,f7⟩;have H7:Hid (PJ w w7 bx w5.heap.size (q1 (t.extract 0 c))):=r7;clear r7 f7)
  |(go_at_call 130;refine(Pw.o _ _ H9.o).mono ?_;rintro e gV ⟨rfl,Um,f10⟩;have kW:Hid (PJ w gV bx w5.heap.size (q4 (t.extract 0 c))):=Um;clear Um f10)
  |(go_at_call 130;refine(DJ.o _ _ H8.o).mono ?_;rintro e w9 ⟨rfl,r9,f9⟩;have H9:Hid (PJ w w9 bx w5.heap.size (q3 (t.extract 0 c))):=r9;clear r9 f9)
  |(go_at_call 130;refine(CJ.o _ _ H7.o).mono ?_;rintro e w8 ⟨rfl,r8,f8⟩;have H8:Hid (PJ w w8 bx w5.heap.size (q2 (t.extract 0 c))):=r8;clear r8 f8)
  |(go_at_call 129;refine(Py.o _ _ _ _ _ _ _ _ _ HX.o).mono ?_;rintro e Eh ⟨rfl,Un⟩;have Cm:Hid (PK w Eh bx w5.heap.size oG.heap.size r6 fv tv mv nv (.slice none 0 0) []):=Un;clear Un)
  |(go_at_call 129;refine(Px.o _ _ kW.o).mono ?_;rintro e oG ⟨rfl,LC,f11⟩;have HX:Hid (PK w (oG.alloc (.cells #[.i fv,.i tv,.i mv,.i nv,.slice none 0 0] 161)) bx w5.heap.size oG.heap.size (q5 (t.extract 0 c)) fv tv mv nv (.slice none 0 0) []):=⟨LC.alloc _,di oG _,eA _ _ _ _,LC.fr.size,Nat.ne_of_gt (cY.1 LC.box).1⟩;clear LC f11))
 obtain⟨sg,hsg⟩:=eX ((dU (t.extract 0 c) 4).toList==[83,78,68,49]);have VP:Hid (((dU (t.extract 0 c) 4).toList==[83,78,68,49])=sg):=hsg;rw[hsg];obtain⟨rb,hrb⟩:=eX w5.heap.size;obtain⟨bs,hbs⟩:=eX oG.heap.size;rw[hrb,hbs]at Cm;rw[hrb,hbs];clear hsg hrb hbs HX kW H9 H8 H7 H6 CJ DJ Pw Px Py HT0 Ku HC F5 dV hc c0 c1 hnc Ue Nb ht h5;go_loopw [40] (λi wr=>∃(k:Nat)(vf:Value),k≤N∧i=.i k∧Hid (PK w wr bx rb bs (eu r6 k).2 fv tv mv nv vf (eu r6 k).1)) (λi _=>N-(intOf i).toNat)
 case atStart=>exact⟨0,_,dC _,rfl,Cm⟩
 obtain⟨k,vf,hk,rfl,HK⟩:=hrel;obtain⟨W3,hW3⟩:=eY wr;subst hW3;clear Cm;have hlen:=nY r6 k;obtain⟨fa,fc,hsh⟩:=ah HK.o.row;rw[hlen]at hsh;subst hsh;by_cases hlt:k<N
 .have hltz:(k:Int)<(N:Int):=by omega
  have hsucc:=pz r6 k;obtain⟨l,hl⟩:=eX (eu r6 k).1;obtain⟨r,hr⟩:=eX (eu r6 k).2;rw[hl,hr]at HK;rw[hl]at hlen;rw[hl,hr]at hsucc;have Ew:Hid (Rc 129 #[.p rb] W3 (.i (bq (dU r.1 1).data.toList:Int)) λw'=>PK w w' bx rb bs (je r 1) fv tv mv nv (.slice fa k fc) l):=HK.o.pj.byte.mono λ_ _⟨e,a,b⟩=>⟨e,HK.o.read a b⟩;have uI:Hid (∀W,PK w W bx rb bs (je r 1) fv tv mv nv (.slice fa k fc) l->Rc 132 #[.p rb,.i 4] W (.t (dU (je r 1).1 4)) λw'=>PK w w' bx rb bs (je (je r 1) 4) fv tv mv nv (.slice fa k fc) l∧Fr [rb] W w'):=λW h=>h.pj.text.mono λ_ _⟨e,a,b⟩=>⟨e,h.read a b,b⟩;have hxs:=CX (je r 1).1 4;obtain⟨z,hz⟩:=eX (bq (dU r.1 1).data.toList);obtain⟨x,hx⟩:=eX (dU (je r 1).1 4);obtain⟨r1,hr1⟩:=eX (je r 1);rw[hz]at Ew;rw[hx]at uI hxs;rw[hz,hx]at hsucc;rw[hr1]at Ew uI hsucc;have HS:Hid (eu r6 (k+1)=(l++[((z:Int),b4 x)],je r1 4)∧l.length=k∧(x.size=0∨x.size=4)):=⟨hsucc,hlen,hxs⟩;obtain⟨y,hy⟩:=eX (b4 x);have X7:Hid (∀(w:World)(b8:Nat),w.heap[b8]?=some (.cells #[.i (z:Int),.u 0,.u 0,.u 0,.u 0] 165 (0,0))->∃w',(∀ty,(Builtin.copy_ #[134,9] ty #[.slice (some (Ad b8 1)) 4 4,.t x]).run Tryz.prog w=.ok (goInt x.size) w')∧w'.heap[b8]?=some (.cells #[.i (z:Int),.u (y.a.toNat:Int),.u (y.b.toNat:Int),.u (y.c.toNat:Int),.u (y.d.toNat:Int)] 165 (0,0))∧Fr [b8] w w'):=λw b8 h=>by obtain⟨w',a,b,c⟩:=Nf w b8 z x h hxs;rw[hy]at b;exact⟨w',a,b,c⟩
  rw[hy]at HS;clear hlen hsucc hxs hl hr hz hx hr1 hy HK;go_wp2_with (go_at_call 129;refine Ew.o.mono ?_;rintro e vZ ⟨rfl,PD⟩;have LD:Hid (PK w (vZ.alloc (.cells #[.i (z:Int),.u 0,.u 0,.u 0,.u 0] 165)) bx rb bs r1 fv tv mv nv (.slice fa k fc) l∧PK w vZ bx rb bs r1 fv tv mv nv (.slice fa k fc) l):=⟨PD.alloc _,PD⟩;clear PD);obtain⟨b8,FJ⟩:=eX vZ.heap.size;have H8:Hid ((vZ.alloc (.cells #[.i (z:Int),.u 0,.u 0,.u 0,.u 0] 165)).heap[b8]?=some (.cells #[.i (z:Int),.u 0,.u 0,.u 0,.u 0] 165 (0,0))∧(b8≠bx∧b8≠rb∧b8≠bs)∧(∀k',(Value.slice fa k fc).ownBlock=some k'->k'≠b8)∧w.heap.size≤b8):=by obtain⟨l1,l2,l3,l4⟩:=LD.o.2.Uh;refine⟨by rw[<-FJ];exact di vZ _,⟨by omega,by omega,by omega⟩,λk' hk'=>by have:=l4 k' hk';omega,by rw[<-FJ];exact LD.o.2.pj.fr.size⟩
  rw[FJ];have IQ:Hid (PK w (vZ.alloc (.cells #[.i (z:Int),.u 0,.u 0,.u 0,.u 0] 165)) bx rb bs r1 fv tv mv nv (.slice fa k fc) l):=LD.o.1;obtain⟨wa,nK⟩:=eX (vZ.alloc (.cells #[.i (z:Int),.u 0,.u 0,.u 0,.u 0] 165));rw[nK]at H8 IQ;rw[nK];clear nK FJ LD Ew;go_region_with
   (first
     |(go_at_call 132;refine(uI.o _ IQ.o.drew).mono ?_;rintro e X8 ⟨rfl,Uo,f14⟩;obtain⟨nA,hcp,IU,f15⟩:=X7.o X8 b8 (by rw[f14.block b8 (cY.1 H8.o.1).1 (by simpa using H8.o.2.1.2.1)];exact H8.o.1);have nL:Hid (PK w nA bx rb bs (je r1 4) fv tv mv nv (.slice fa k fc) l∧nA.heap[b8]?=some (.cells #[.i (z:Int),.u (y.a.toNat:Int),.u (y.b.toNat:Int),.u (y.c.toNat:Int),.u (y.d.toNat:Int)] 165 (0,0))):=⟨Uo.other f15 H8.o.2.1 H8.o.2.2.1 H8.o.2.2.2,IU⟩;clear Uo f14 f15 IU))
  all_goals
   clear hcp;have e0:nA.cell? (Ad b8 0)=some (.i (z:Int)):=ce nL.o.2 rfl;have e1:nA.cell? (Ad b8 1)=some (.u (y.a.toNat:Int)):=ce nL.o.2 rfl;have e2:nA.cell? (Ad b8 2)=some (.u (y.b.toNat:Int)):=ce nL.o.2 rfl;have e3:nA.cell? (Ad b8 3)=some (.u (y.c.toNat:Int)):=ce nL.o.2 rfl;have e4:nA.cell? (Ad b8 4)=some (.u (y.d.toNat:Int)):=ce nL.o.2 rfl;have x4:nA.cell? (Ad bs 4)=some (.slice fa k fc):=ce nL.o.1.box rfl;have lbs:bs<nA.heap.size:=dm _ _ x4;have zM:Hid (∀j u,[Value.i (z:Int),.u (y.a.toNat:Int),.u (y.b.toNat:Int),.u (y.c.toNat:Int),.u (y.d.toNat:Int)][j]?=some u->(nA.alloc (.cells #[.i (z:Int),.u (y.a.toNat:Int),.u (y.b.toNat:Int),.u (y.c.toNat:Int),.u (y.d.toNat:Int)] 165)).cell? (((Ad nA.heap.size 0):Addr).add j)=some u):=World.news_of_block (cs:=#[.i (z:Int),.u (y.a.toNat:Int),.u (y.b.toNat:Int),.u (y.c.toNat:Int),.u (y.d.toNat:Int)]) (t:=165) (fr:=(0,0)) (di nA _);have jy:Hid (nA.ownsRow w.heap.size 165 5 (.slice fa k fc) k (jw l)):=by have:=nL.o.1.row;rw[HS.o.2.1]at this;exact this
   have Oj:w.heap.size≤nA.heap.size:=nL.o.1.pj.fr.size;go_wp2_with (at_builtin;refine wpList_append_own _ rfl _ _ 159 rfl w.heap.size 165 i0 _ 5 16 Tryz.underlying159 hi hz0 hz1 hz2 rfl (by omega) (.slice fa k fc) k (jw l) rfl (jy.o.alloc _) (Ad nA.heap.size 0) 1 1 [.i (z:Int),.u (y.a.toNat:Int),.u (y.b.toNat:Int),.u (y.c.toNat:Int),.u (y.d.toNat:Int)] rfl rfl zM.o (by simp[Value.oneCell']) (by unfold maxLen;omega) (by omega) (by simp;omega) ?_;intro v9 w9 aH aJ iR;obtain⟨a9,k9,ni⟩:=ah aH;subst ni;have HP:=(nL.o.1.alloc (.cells #[.i (z:Int),.u (y.a.toNat:Int),.u (y.b.toNat:Int),.u (y.c.toNat:Int),.u (y.d.toNat:Int)] 165)).push (x:=((z:Int),y)) (by rw[HS.o.2.1];exact aH) aJ;have H9:Hid (PK w (w9.setCell (Ad bs 4) (.slice a9 (k+1) k9)) bx rb bs (je r1 4) fv tv mv nv (.slice a9 (k+1) k9) (l++[((z:Int),y)])):=HP.1;have x9:=HP.2.1;have z9:=HP.2.2;clear HP aH aJ iR);go_roundw
   case rel=>exact⟨k+1,_,by omega,by go_num,by rw[HS.o.1];exact H9⟩
   simp[intOf];omega
 have hkk:k=N:=by omega
 subst hkk;rw[HQ.o.1,HQ.o.2]at HK;rw[HQ.o.1]at hlen;have HX:Hid (lL.length=k):=hlen;clear hlen;have y0:W3.cell? (Ad bx 0)=some (.i 0):=by have:=HK.o.pj.box;unfold z116 at this;rw[cell_of this];rfl
 have y1:W3.cell? (Ad bx 1)=some (.i 0):=by have:=HK.o.pj.box;unfold z116 at this;rw[cell_of this];rfl
 have y2:W3.cell? (Ad bx 2)=some (.i 0):=by have:=HK.o.pj.box;unfold z116 at this;rw[cell_of this];rfl
 have y3:W3.cell? (Ad bx 3)=some (.i 0):=by have:=HK.o.pj.box;unfold z116 at this;rw[cell_of this];rfl
 have y4:W3.cell? (Ad bx 4)=some (.slice none 0 0):=by have:=HK.o.pj.box;unfold z116 at this;rw[cell_of this];rfl
 have zz:∀j,W3.frozen? (Ad bx j)=false:=λj=>by have:=HK.o.pj.box;unfold z116 at this;exact ay this j
 have z0:=zz 0;have z1:=zz 1;have z2:=zz 2;have z3:=zz 3;have z4:=zz 4;clear zz;have HE:Hid (Rc 131 #[.p rb] W3 (.bool (decide ((qe (t.extract 0 c)).1.size=0)&&!(qe (t.extract 0 c)).2)) λw'=>w'=W3):=pq rb _ _ W3 HK.o.pj.rd;have hbs:w.heap.size≤bx:=Nat.le_of_eq HB.o.2.2.1;have nJ:Hid (∀W a b c' d e,Fr [] w W->Fr [] w (((((W.setCell (Ad bx 0) a).setCell (Ad bx 1) b).setCell (Ad bx 2) c').setCell (Ad bx 3) d).setCell (Ad bx 4) e)):=λW a b c' d e h=>((((h.setCell _ (Or.inr hbs)).setCell _ (Or.inr hbs)).setCell _ (Or.inr hbs)).setCell _ (Or.inr hbs)).setCell _ (Or.inr hbs);cases sg with
 |false=>
  have hok:ok=false:=by
   cases ok
   .rfl
   exfalso;have h9:=VP.o;rw[(Ba.o.1.1 rfl).1,ByteArray.toList_eq]at h9;cases h9
  subst hok;go_wp2;refine ez (v:=.tuple #[jZ,.bool false]) ?_ rfl ⟨rfl,nJ.o _ _ _ _ _ _ HK.o.pj.fr⟩;rw[results_cell_tmp rfl];go_simp;rfl
 |true=>
  by_cases hb:(decide ((qe (t.extract 0 c)).1.size=0)&&!(qe (t.extract 0 c)).2)=false
  .have hok:ok=false:=by
    cases ok
    .rfl
    exfalso;have h9:=Ba.o.1.1 rfl;rw[h9.2.1,h9.2.2.1]at hb;cases hb
   subst hok;rw[hb]at HE;clear hb;go_wp2_with (go_at_call 131;refine HE.o.mono ?_;rintro e w' ⟨rfl,hw'⟩;subst w');refine ez (v:=.tuple #[jZ,.bool false]) ?_ rfl ⟨rfl,nJ.o _ _ _ _ _ _ HK.o.pj.fr⟩;rw[results_cell_tmp rfl];go_simp;rfl
  have hb2:(decide ((qe (t.extract 0 c)).1.size=0)&&!(qe (t.extract 0 c)).2)=true:=by
   cases h8:(decide ((qe (t.extract 0 c)).1.size=0)&&!(qe (t.extract 0 c)).2)
   .exact absurd h8 hb
   rfl
  rw[hb2]at HE;have Z0:Hid ((qe (t.extract 0 c)).2=false∧(qe (t.extract 0 c)).1.size=0):=by rw[fh,fS,kq]at hb2;exact And.intro hb2.2 hb2.1
  clear hb hb2;cases mb with
  |false=>
   have hok:ok=false:=by
    cases ok
    .rfl
    exact absurd (Ba.o.1.1 rfl).2.2.2 (by simp)
   subst hok;have HM:Hid (Rc 162 #[.agg #[.i (fv:Int),.i (tv:Int),.i (mv:Int),.i (nv:Int),.slice fa k fc]] W3 (.bool false) λw'=>Fr [] W3 w'):=Ba.o.2 W3 _ HK.o.row;have u0:W3.cell? (Ad bs 0)=some (.i (fv:Int)):=ce HK.o.box rfl;have u1:W3.cell? (Ad bs 1)=some (.i (tv:Int)):=ce HK.o.box rfl;have u2:W3.cell? (Ad bs 2)=some (.i (mv:Int)):=ce HK.o.box rfl;have u3:W3.cell? (Ad bs 3)=some (.i (nv:Int)):=ce HK.o.box rfl;have u4:W3.cell? (Ad bs 4)=some (.slice fa k fc):=ce HK.o.box rfl;have IV:Hid (∀W,Fr [] W3 W->W.heap[bx]?=some z116∧W.heap[bs]?=some (.cells #[.i fv,.i tv,.i mv,.i nv,.slice fa k fc] 161 (0,0))∧W.ownsRow w.heap.size 165 5 (.slice fa k fc) lL.length (jw lL)):=λW h=>by obtain⟨l1,l2,l3,l4⟩:=HK.o.Uh;refine⟨by rw[h.block bx l1 (by simp)];exact HK.o.pj.box,by rw[h.block bs l3 (by simp)];exact HK.o.box,bD HK.o.row h⟩
   go_wp2_with (first
    |(go_at_call 131;refine HE.o.mono ?_;rintro e w' ⟨rfl,hw'⟩;subst w')
    |(go_at_call 162;refine HM.o.mono ?_;rintro e pF ⟨rfl,f17⟩;have yT:Hid (Fr [] w pF∧pF.heap[bx]?=some z116∧pF.ownsRow w.heap.size 165 5 (.slice fa k fc) lL.length (jw lL)):=⟨HK.o.pj.fr.tr f17,(IV.o _ f17).1,(IV.o _ f17).2.2⟩;have hq:=(IV.o _ f17).1;unfold z116 at hq;have hq2:=(IV.o _ f17).2.1;have y0:pF.cell? (Ad bx 0)=some (.i 0):=(ce hq rfl);have y1:pF.cell? (Ad bx 1)=some (.i 0):=(ce hq rfl);have y2:pF.cell? (Ad bx 2)=some (.i 0):=(ce hq rfl);have y3:pF.cell? (Ad bx 3)=some (.i 0):=(ce hq rfl);have y4:pF.cell? (Ad bx 4)=some (.slice none 0 0):=(ce hq rfl);have z0:=ay hq 0;have z1:=ay hq 1;have z2:=ay hq 2;have z3:=ay hq 3;have z4:=ay hq 4;have u0:pF.cell? (Ad bs 0)=some (.i (fv:Int)):=(ce hq2 rfl);have u1:pF.cell? (Ad bs 1)=some (.i (tv:Int)):=(ce hq2 rfl);have u2:pF.cell? (Ad bs 2)=some (.i (mv:Int)):=(ce hq2 rfl);have u3:pF.cell? (Ad bs 3)=some (.i (nv:Int)):=(ce hq2 rfl);have u4:pF.cell? (Ad bs 4)=some (.slice fa k fc):=(ce hq2 rfl);clear f17 hq hq2))
   refine ez (v:=.tuple #[jZ,.bool false]) ?_ rfl ⟨rfl,nJ.o _ _ _ _ _ _ yT.o.1⟩;rw[results_cell_tmp rfl];go_simp;rfl
  |true=>
   have hok:ok=true:=Ba.o.1.2 ⟨by have h9:=VP.o;rw[ByteArray.toList_eq]at h9;refine gG ?_;simpa using h9,Z0.o.1,Z0.o.2,rfl⟩;subst hok;have HM:Hid (Rc 162 #[.agg #[.i (fv:Int),.i (tv:Int),.i (mv:Int),.i (nv:Int),.slice fa k fc]] W3 (.bool true) λw'=>Fr [] W3 w'):=Ba.o.2 W3 _ HK.o.row;have u0:W3.cell? (Ad bs 0)=some (.i (fv:Int)):=ce HK.o.box rfl;have u1:W3.cell? (Ad bs 1)=some (.i (tv:Int)):=ce HK.o.box rfl;have u2:W3.cell? (Ad bs 2)=some (.i (mv:Int)):=ce HK.o.box rfl;have u3:W3.cell? (Ad bs 3)=some (.i (nv:Int)):=ce HK.o.box rfl;have u4:W3.cell? (Ad bs 4)=some (.slice fa k fc):=ce HK.o.box rfl;have IV:Hid (∀W,Fr [] W3 W->W.heap[bx]?=some z116∧W.heap[bs]?=some (.cells #[.i fv,.i tv,.i mv,.i nv,.slice fa k fc] 161 (0,0))∧W.ownsRow w.heap.size 165 5 (.slice fa k fc) lL.length (jw lL)):=λW h=>by obtain⟨l1,l2,l3,l4⟩:=HK.o.Uh;refine⟨by rw[h.block bx l1 (by simp)];exact HK.o.pj.box,by rw[h.block bs l3 (by simp)];exact HK.o.box,bD HK.o.row h⟩
   go_wp2_with (first
    |(go_at_call 131;refine HE.o.mono ?_;rintro e w' ⟨rfl,hw'⟩;subst w')
    |(go_at_call 162;refine HM.o.mono ?_;rintro e pF ⟨rfl,f17⟩;have yT:Hid (Fr [] w pF∧pF.heap[bx]?=some z116∧pF.ownsRow w.heap.size 165 5 (.slice fa k fc) lL.length (jw lL)):=⟨HK.o.pj.fr.tr f17,(IV.o _ f17).1,(IV.o _ f17).2.2⟩;have hq:=(IV.o _ f17).1;unfold z116 at hq;have hq2:=(IV.o _ f17).2.1;have y0:pF.cell? (Ad bx 0)=some (.i 0):=(ce hq rfl);have y1:pF.cell? (Ad bx 1)=some (.i 0):=(ce hq rfl);have y2:pF.cell? (Ad bx 2)=some (.i 0):=(ce hq rfl);have y3:pF.cell? (Ad bx 3)=some (.i 0):=(ce hq rfl);have y4:pF.cell? (Ad bx 4)=some (.slice none 0 0):=(ce hq rfl);have z0:=ay hq 0;have z1:=ay hq 1;have z2:=ay hq 2;have z3:=ay hq 3;have z4:=ay hq 4;have u0:pF.cell? (Ad bs 0)=some (.i (fv:Int)):=(ce hq2 rfl);have u1:pF.cell? (Ad bs 1)=some (.i (tv:Int)):=(ce hq2 rfl);have u2:pF.cell? (Ad bs 2)=some (.i (mv:Int)):=(ce hq2 rfl);have u3:pF.cell? (Ad bs 3)=some (.i (nv:Int)):=(ce hq2 rfl);have u4:pF.cell? (Ad bs 4)=some (.slice fa k fc):=(ce hq2 rfl);clear f17 hq hq2))
   refine ez (v:=.tuple #[.agg #[.i (fv:Int),.i (tv:Int),.i (mv:Int),.i (nv:Int),.slice fa k fc],.bool true]) ?_ rfl ⟨⟨_,rfl,?_⟩,nJ.o _ _ _ _ _ _ yT.o.1⟩
   .rw[results_cell_tmp rfl];go_simp
   have hr:=yT.o.2.2;rw[HB.o.2.2.1]at hr;refine aj hr (λk' hk'=>?_);have hne:k'≠bx:=λe=>by obtain⟨_,cur,h2⟩:=av yT.o.2.2 hk';have h3:=yT.o.2.1;unfold z116 at h3;rw[e,h3]at h2;simp at h2
   rw[de _ _ _ _ hne,de _ _ _ _ hne,de _ _ _ _ hne,de _ _ _ _ hne,de _ _ _ _ hne]
theorem X6(l:List UInt8)(h:18≤l.length):dU (bU l) 4=bU (l.take 4)∧qf (bU l)=bq ((l.drop 4).take 4)∧qt (bU l)=bq ((l.drop 8).take 4)∧qm (bU l)=bq ((l.drop 12).take 4)∧qb (bU l)=bq ((l.drop 16).take 1)∧qn (bU l)=bq ((l.drop 17).take 1)∧q6 (bU l)=(bU (l.drop 18),false):=by
 have s1:l.drop 17=(l.drop 17).take 1++l.drop 18:=by have:=gl 1 (l.drop 17);rw[ic]at this;exact this.symm
 have s2:l.drop 16=(l.drop 16).take 1++l.drop 17:=by have:=gl 1 (l.drop 16);rw[ic]at this;exact this.symm
 have s3:l.drop 12=(l.drop 12).take 4++l.drop 16:=by have:=gl 4 (l.drop 12);rw[ic]at this;exact this.symm
 have s4:l.drop 8=(l.drop 8).take 4++l.drop 12:=by have:=gl 4 (l.drop 8);rw[ic]at this;exact this.symm
 have s5:l.drop 4=(l.drop 4).take 4++l.drop 8:=by have:=gl 4 (l.drop 4);rw[ic]at this;exact this.symm
 have s6:l=l.take 4++l.drop 4:=(gl 4 l).symm;have a0:dU (bU l) 4=bU (l.take 4):=by
  conv=>lhs;rw[s6]
  rw[jH _ _ 4 (by simp;omega)]
 have a1:q1 (bU l)=(bU (l.drop 4),false):=by
  unfold q1
  conv=>lhs;rw[s6]
  rw[jI _ _ _ 4 (by simp;omega)]
 have a2:q2 (bU l)=(bU (l.drop 8),false):=by unfold q2;rw[a1,s5,jI _ _ _ 4 (by simp;omega)]
 have a3:q3 (bU l)=(bU (l.drop 12),false):=by unfold q3;rw[a2,s4,jI _ _ _ 4 (by simp;omega)]
 have a4:q4 (bU l)=(bU (l.drop 16),false):=by unfold q4;rw[a3,s3,jI _ _ _ 4 (by simp;omega)]
 have a5:q5 (bU l)=(bU (l.drop 17),false):=by unfold q5;rw[a4,s2,jI _ _ _ 1 (by simp;omega)]
 have a6:q6 (bU l)=(bU (l.drop 18),false):=by unfold q6;rw[a5,s1,jI _ _ _ 1 (by simp;omega)]
 refine⟨a0,?_,?_,?_,?_,?_,a6⟩
 .unfold qf;rw[a1,s5,jH _ _ 4 (by simp;omega),dR,<-s5]
 .unfold qt;rw[a2,s4,jH _ _ 4 (by simp;omega),dR,<-s4]
 .unfold qm;rw[a3,s3,jH _ _ 4 (by simp;omega),dR,<-s3]
 .unfold qb;rw[a4,s2,jH _ _ 1 (by simp;omega),dR,<-s2]
 unfold qn;rw[a5,s1,jH _ _ 1 (by simp;omega),dR,<-s1]
def Uk(l:List UInt8)(k:Nat):List (Int×B4):=(List.range k).map λi=>((bq ((l.drop (5*i)).take 1):Int),b4 (bU ((l.drop (5*i+1)).take 4)))
theorem Da(l:List UInt8):∀k,5*k≤l.length->eu (bU l,false) k=(Uk l k,(bU (l.drop (5*k)),false))
 |0,_=>by simp[eu,Uk]
 |k+1,hk=>by
  have ih:=Da l k (by omega);have s1:l.drop (5*k)=(l.drop (5*k)).take 1++l.drop (5*k+1):=by have:=gl 1 (l.drop (5*k));rw[ic]at this;exact this.symm
  have s2:l.drop (5*k+1)=(l.drop (5*k+1)).take 4++l.drop (5*(k+1)):=by have:=gl 4 (l.drop (5*k+1));rw[ic]at this;exact this.symm
  have e1:dU (bU (l.drop (5*k))) 1=bU ((l.drop (5*k)).take 1):=by
   conv=>lhs;rw[s1]
   rw[jH _ _ 1 (by simp;omega)]
  have e2:je (bU (l.drop (5*k)),false) 1=(bU (l.drop (5*k+1)),false):=by
   conv=>lhs;rw[s1]
   rw[jI _ _ _ 1 (by simp;omega)]
  have e3:dU (bU (l.drop (5*k+1))) 4=bU ((l.drop (5*k+1)).take 4):=by
   conv=>lhs;rw[s2]
   rw[jH _ _ 4 (by simp;omega)]
  have e4:je (bU (l.drop (5*k+1)),false) 4=(bU (l.drop (5*(k+1))),false):=by
   conv=>lhs;rw[s2]
   rw[jI _ _ _ 4 (by simp;omega)]
  rw[eu,ih];simp only;rw[e1,e2];simp only;rw[e3,e4,dR];unfold Uk;rw[jn,fj];rfl
def ZY(t:cC)(i:Nat):Nat:=bq ((t.extract (18+5*i) (23+5*i)).extract 0 1).data.toList
def JX(t:cC)(i:Nat):cC:=(t.extract (18+5*i) (23+5*i)).extract 1 (t.extract (18+5*i) (23+5*i)).size
def FI(t:cC)(k:Nat):List (Int×B4):=(List.range k).map λi=>((ZY t i:Int),b4 (JX t i))
theorem Ul{x:cC}(h:x.size=4):(b4 x).ba=x:=by
 obtain⟨d⟩:=x;have h1:d.size=4:=h;unfold b4 B4.ba;congr 1;apply Array.ext
 .simp[h1]
 intro i hi _;have:i=0∨i=1∨i=2∨i=3:=by simp at hi;omega
 rcases this with rfl|rfl|rfl|rfl<;>simp[h1]
theorem IJ(t:cC)(i:Nat)(h:23+5*i≤t.size):(JX t i).size=4:=by unfold JX;rw[eo,eo];omega
theorem Pv(t:cC)(h:22≤t.size):dU (t.extract 0 (bW t)) 4=t.extract 0 4∧qf (t.extract 0 (bW t))=bq (t.extract 4 8).data.toList∧qt (t.extract 0 (bW t))=bq (t.extract 8 12).data.toList∧qm (t.extract 0 (bW t))=bq (t.extract 12 16).data.toList∧qb (t.extract 0 (bW t))=bq (t.extract 16 17).data.toList∧qn (t.extract 0 (bW t))=bq (t.extract 17 18).data.toList∧(t.size=22+5*qn (t.extract 0 (bW t))->(qe (t.extract 0 (bW t))).2=false∧(qe (t.extract 0 (bW t))).1.size=0∧ql (t.extract 0 (bW t))=FI t (qn (t.extract 0 (bW t)))):=by
 obtain⟨L,hL⟩:=eX t.data.toList;have hn:t.size=L.length:=by rw[<-hL,fk];rfl
 have e:t.extract 0 (bW t)=bU (L.take (L.length-4)):=by refine gG ?_;rw[ext_list,dR,hL,List.drop_zero];unfold bW;rw[hn,Nat.sub_zero]
 have hlen:(L.take (L.length-4)).length=L.length-4:=by rw[eM];omega
 obtain⟨a0,a1,a2,a3,a4,a5,a6⟩:=X6 (L.take (L.length-4)) (by rw[hlen];omega);rw[e];have cut:∀a b:Nat,a+b≤L.length-4->((L.take (L.length-4)).drop a).take b=(t.extract a (a+b)).data.toList:=λa b hab=>by rw[ext_list,hL,List.drop_take,List.take_take,fN (by omega),show a+b-a=b by omega]
 refine⟨?_,?_,?_,?_,?_,?_,λhsz=>?_⟩
 .rw[a0];refine gG ?_;rw[dR,ext_list,hL,List.take_take,fN (by omega),List.drop_zero]
 .rw[a1,cut 4 4 (by omega)]
 .rw[a2,cut 8 4 (by omega)]
 .rw[a3,cut 12 4 (by omega)]
 .rw[a4,cut 16 1 (by omega)]
 .rw[a5,cut 17 1 (by omega)]
 obtain⟨N,hN⟩:=eX (qn (bU (L.take (L.length-4))));have hb:=Da ((L.take (L.length-4)).drop 18) N (by rw[gj,hlen];rw[hN]at hsz;omega);unfold qe ql;rw[hN]at hsz⊢;rw[a6,hb];refine⟨rfl,?_,?_⟩
 .show(bU _).size=0;rw[lW,gj,gj,hlen];omega
 show Uk _ N=FI t N;unfold Uk FI;refine List.map_congr_left λi hi=>?_;have hi':i<N:=gk.1 hi;have h1:((((L.take (L.length-4)).drop 18).drop (5*i)).take 1)=((t.extract (18+5*i) (23+5*i)).extract 0 1).data.toList:=by rw[ext_list,ext_list,hL,ic,List.drop_take,List.take_take,fN (by omega),List.drop_zero,List.take_take,fN (by omega)]
 have h2:((((L.take (L.length-4)).drop 18).drop (5*i+1)).take 4)=(JX t i).data.toList:=by
  have hs:(t.extract (18+5*i) (23+5*i)).size=5:=by rw[eo];omega
  unfold JX;rw[hs,ext_list,ext_list,hL,ic,List.drop_take,List.take_take,List.drop_take,ic,List.take_take];rw[show 18+(5*i+1)=18+5*i+1 by omega,show min 4 (L.length-4-(18+5*i+1))=4 by omega,show min (5-1) (23+5*i-(18+5*i)-1)=4 by omega]
 rw[h1,h2];have h3:bU (JX t i).data.toList=JX t i:=lM _;rw[h3];rfl
def wI(x:Array Value):Prop:=∃(a b c d:Int)(p1:Option Addr)(n1 c1:Nat)(p2:Option Addr)(n2 c2:Nat),x=#[.i a,.i b,.i c,.i d,.slice p1 n1 c1,.slice p2 n2 c2]
theorem six{a b c d:Int}{p1:Option Addr}{n1 c1:Nat}{p2:Option Addr}{n2 c2:Nat}:wI #[.i a,.i b,.i c,.i d,.slice p1 n1 c1,.slice p2 n2 c2]:=⟨a,b,c,d,p1,n1,c1,p2,n2,c2,rfl⟩
structure RX(w W:World)(bx:Nat)(f t m nb:Int)(vN vD:Value)(N:List Int)(D:List cC):Prop where
 fr:Fr [] w W
 bz:W.heap[bx]?=some (.cells #[.i 0,.i 0,.i 0,.i 0,.slice none 0 0,.slice none 0 0] 221 (0,0))
 bo:W.heap[bx+1]?=some (.cells #[.i f,.i t,.i m,.i nb,vN,vD] 221 (0,0))
 nr:W.ownsRow w.heap.size 3 1 vN N.length (N.map (Value.int .i64))
 dr:W.ownsRow w.heap.size 9 1 vD D.length (D.map Value.string)
 ge:w.heap.size=bx
section
variable {w W W':World}{bx:Nat}{f t m nb:Int}{vN vD:Value}{N:List Int}{D:List cC}
theorem RX.kQ(h:RX w W bx f t m nb vN vD N D):W.cell? (Ad bx 0)=some (.i 0)∧W.cell? (Ad bx 1)=some (.i 0)∧W.cell? (Ad bx 2)=some (.i 0)∧W.cell? (Ad bx 3)=some (.i 0)∧W.cell? (Ad bx 4)=some (.slice none 0 0)∧W.cell? (Ad bx 5)=some (.slice none 0 0):=
 ⟨ce h.bz rfl,ce h.bz rfl,ce h.bz rfl,ce h.bz rfl,ce h.bz rfl,ce h.bz rfl⟩
theorem RX.aY(h:RX w W bx f t m nb vN vD N D)(j:Nat):W.frozen? (Ad bx j)=false:=ay h.bz j
theorem RX.oo(h:RX w W bx f t m nb vN vD N D)(j:Nat):W.frozen? (Ad (bx+1) j)=false:=ay h.bo j
theorem RX.jP(h:RX w W bx f t m nb vN vD N D):W.cell? (Ad (bx+1) 0)=some (.i f)∧W.cell? (Ad (bx+1) 1)=some (.i t)∧W.cell? (Ad (bx+1) 2)=some (.i m)∧W.cell? (Ad (bx+1) 3)=some (.i nb)∧W.cell? (Ad (bx+1) 4)=some vN∧W.cell? (Ad (bx+1) 5)=some vD:=
 ⟨ce h.bo rfl,ce h.bo rfl,ce h.bo rfl,ce h.bo rfl,ce h.bo rfl,ce h.bo rfl⟩
theorem RX.same(h:RX w W bx f t m nb vN vD N D)(hf:Fr [] W W'):RX w W' bx f t m nb vN vD N D:=
 ⟨h.fr.trans hf (by simp),by rw[hf.block bx (cY.1 h.bz).1 (by simp)];exact h.bz,by rw[hf.block _ (cY.1 h.bo).1 (by simp)];exact h.bo,bD h.nr hf,bD h.dr hf,h.ge⟩
theorem RX.fin(h:RX w W bx f t m nb vN vD N D)(a b c d e g:Value):Fr [] w ((((((W.setCell (Ad bx 0) a).setCell (Ad bx 1) b).setCell (Ad bx 2) c).setCell (Ad bx 3) d).setCell (Ad bx 4) e).setCell (Ad bx 5) g):=by have hbs:w.heap.size≤bx:=Nat.le_of_eq h.ge;exact((((((h.fr.setCell _ (Or.inr hbs)).setCell _ (Or.inr hbs)).setCell _ (Or.inr hbs)).setCell _ (Or.inr hbs)).setCell _ (Or.inr hbs)).setCell _ (Or.inr hbs))
theorem RX.wQ(h:RX w W bx f t m nb vN vD N D)(hf:Fr [] W W')(a b c d e g:Value):Fr [] w ((((((W'.setCell (Ad bx 0) a).setCell (Ad bx 1) b).setCell (Ad bx 2) c).setCell (Ad bx 3) d).setCell (Ad bx 4) e).setCell (Ad bx 5) g):=(h.same hf).fin a b c d e g
theorem RX.far(h:RX w W bx f t m nb vN vD N D):(∀k,vN.ownBlock=some k->k≠bx∧k≠bx+1)∧(∀k,vD.ownBlock=some k->k≠bx∧k≠bx+1)∧(∀k,vN.ownBlock=some k->vD.ownBlock≠some k):=by
 refine⟨λk hk=>?_,λk hk=>?_,λk hk e=>?_⟩
 .obtain⟨_,cur,h2⟩:=av h.nr hk;refine⟨λe=>?_,λe=>?_⟩
  .rw[e,h.bz]at h2;simp at h2
  rw[e,h.bo]at h2;simp at h2
 .obtain⟨_,cur,h2⟩:=av h.dr hk;refine⟨λe=>?_,λe=>?_⟩
  .rw[e,h.bz]at h2;simp at h2
  rw[e,h.bo]at h2;simp at h2
 obtain⟨_,cur,h2⟩:=av h.nr hk;obtain⟨_,cur',h3⟩:=av h.dr e;rw[h2]at h3;simp at h3
theorem RX.put(h:RX w W bx f t m nb vN vD N D)(j:Nat)(v:Value){f' t' m' nb':Int}(e:(#[Value.i f,.i t,.i m,.i nb,vN,vD].set! j v)=#[Value.i f',.i t',.i m',.i nb',vN,vD]):RX w (W.setCell (Ad (bx+1) j) v) bx f' t' m' nb' vN vD N D:=by
 have hb:=h.ge;refine⟨h.fr.setCell _ (Or.inr (by show w.heap.size≤bx+1;omega)),?_,?_,aj h.nr (λk hk=>de _ _ _ _ (h.far.1 k hk).2),aj h.dr (λk hk=>de _ _ _ _ (h.far.2.1 k hk).2),h.ge⟩
 .rw[de _ _ _ _ (by show bx≠bx+1;omega)];exact h.bz
 rw[dy W (bx+1) j _ _ _ h.bo];rw[<-e];simp
end
theorem zk(t:cC)(w:World)(ht:t.size<22):
 Cl 127 #[.t t] w λe w'=>(∃x,e=.returned (.tuple #[.agg x,.bool false])∧wI x)∧Fr [] w w':=by
 obtain⟨n,hn⟩:=eX t.size;rw[hn]at ht;have h1:(n:Int)<22:=by omega
 obtain⟨bx,hbx⟩:=eX w.heap.size;obtain⟨w0,hw0⟩:=eX ((w.alloc (.cells #[.i 0,.i 0,.i 0,.i 0,.slice none 0 0,.slice none 0 0] 221)).alloc (.cells #[.i 0,.i 0,.i 0,.i 0,.slice none 0 0,.slice none 0 0] 221));have R0:RX w w0 bx 0 0 0 0 (.slice none 0 0) (.slice none 0 0) [] []:=by
  rw[<-hw0,<-hbx];refine⟨(fR.alloc _).alloc _,?_,?_,eA _ _ _ _,eA _ _ _ _,rfl⟩
  .rw[ei _ _ _ (by simp)];exact di w _
  have:=di (w.alloc (.cells #[.i 0,.i 0,.i 0,.i 0,.slice none 0 0,.slice none 0 0] 221)) (.cells #[.i 0,.i 0,.i 0,.i 0,.slice none 0 0,.slice none 0 0] 221);simpa using this
 have xG:=Hd R0;obtain⟨y0,y1,y2,y3,y4,y5⟩:=R0.kQ;have z0:=R0.aY 0;have z1:=R0.aY 1;have z2:=R0.aY 2;have z3:=R0.aY 3;have z4:=R0.aY 4;have z5:=R0.aY 5;obtain⟨x0,x1,x2,x3,x4,x5⟩:=R0.jP;clear R0;have dV:=hw0;clear hw0;go_enter Tryz.func127,Tryz.ntmps127;go_wp2;go_quiet (fail)
 go_wp2;refine ez (v:=.tuple #[.agg #[.i 0,.i 0,.i 0,.i 0,.slice none 0 0,.slice none 0 0],.bool false]) ?_ rfl ⟨⟨_,rfl,six⟩,?_⟩
 .rw[results_cell_tmp rfl];go_simp
 refine xG.o.wQ ?_ _ _ _ _ _ _;first|exact fR|exact fR.drew|exact fR.drewN _
theorem sH(t:cC)(w:World)(ht:22≤t.size)(hs:((t.extract 0 4).toList==[83,78,68,49])=false):
 Cl 127 #[.t t] w λe w'=>(∃x,e=.returned (.tuple #[.agg x,.bool false])∧wI x)∧Fr [] w w':=by
 obtain⟨n,hn⟩:=eX t.size;rw[hn]at ht;have h1:decide ((n:Int)<22)=false:=by simp;omega
 have h2:(4:Int)≤(n:Int):=by omega
 obtain⟨bx,hbx⟩:=eX w.heap.size;obtain⟨w0,hw0⟩:=eX ((w.alloc (.cells #[.i 0,.i 0,.i 0,.i 0,.slice none 0 0,.slice none 0 0] 221)).alloc (.cells #[.i 0,.i 0,.i 0,.i 0,.slice none 0 0,.slice none 0 0] 221));have R0:RX w w0 bx 0 0 0 0 (.slice none 0 0) (.slice none 0 0) [] []:=by
  rw[<-hw0,<-hbx];refine⟨(fR.alloc _).alloc _,?_,?_,eA _ _ _ _,eA _ _ _ _,rfl⟩
  .rw[ei _ _ _ (by simp)];exact di w _
  have:=di (w.alloc (.cells #[.i 0,.i 0,.i 0,.i 0,.slice none 0 0,.slice none 0 0] 221)) (.cells #[.i 0,.i 0,.i 0,.i 0,.slice none 0 0,.slice none 0 0] 221);simpa using this
 have xG:=Hd R0;obtain⟨y0,y1,y2,y3,y4,y5⟩:=R0.kQ;have z0:=R0.aY 0;have z1:=R0.aY 1;have z2:=R0.aY 2;have z3:=R0.aY 3;have z4:=R0.aY 4;have z5:=R0.aY 5;obtain⟨x0,x1,x2,x3,x4,x5⟩:=R0.jP;clear R0;have dV:=hw0;clear hw0;go_enter Tryz.func127,Tryz.ntmps127;go_wp2;go_quiet (fail)
 go_wp2;refine ez (v:=.tuple #[.agg #[.i 0,.i 0,.i 0,.i 0,.slice none 0 0,.slice none 0 0],.bool false]) ?_ rfl ⟨⟨_,rfl,six⟩,?_⟩
 .rw[results_cell_tmp rfl];go_simp
 refine xG.o.wQ ?_ _ _ _ _ _ _;first|exact fR|exact fR.drew|exact fR.drewN _
theorem zh(a b:cC):(a.toList==b.toList)=(b.toList==a.toList):=by
 cases h:(a.toList==b.toList)
 .cases h2:(b.toList==a.toList)
  .rfl
  have e:=eq_of_beq h2;rw[e]at h;simp at h
 have e:=eq_of_beq h;rw[e];simp
theorem zi(t:cC)(w:World)(hz:t.size≤2000000)(ht:22≤t.size)(hs:((t.extract 0 4).toList==[83,78,68,49])=true)(hc:((kE (t.extract 0 (bW t)).data.toList).ba.toList==(t.extract (bW t) t.size).toList)=false):
 Cl 127 #[.t t] w λe w'=>(∃x,e=.returned (.tuple #[.agg x,.bool false])∧wI x)∧Fr [] w w':=by
 obtain⟨n,hn⟩:=eX t.size;obtain⟨c,hcc⟩:=eX (bW t);have hce:c=n-4:=by rw[<-hcc,<-hn];rfl
 rw[hcc,hn]at hc;have HC:Hid (∀W,Rc 59 #[.t (t.extract 0 c)] W (.t (kE (t.extract 0 c).data.toList).ba) λw'=>Fr [] W w'):=λW=>jr _ W (by rw[eo];omega);obtain⟨ck,hck⟩:=eX (kE (t.extract 0 c).data.toList).ba;rw[hck]at HC hc;rw[hn]at ht hz;have h1:decide ((n:Int)<22)=false:=by simp;omega
 have h2:(4:Int)≤(n:Int):=by omega
 have c0:(0:Int)≤(c:Int):=by omega
 have c1:(c:Int)≤(n:Int):=by omega
 have hnc:IntKind.i64.wrap ((n:Int)-4)=(c:Int):=by rw[show(n:Int)-4=(c:Int) by omega];exact aD ⟨by omega,by omega⟩
 obtain⟨bx,hbx⟩:=eX w.heap.size;obtain⟨w0,hw0⟩:=eX ((w.alloc (.cells #[.i 0,.i 0,.i 0,.i 0,.slice none 0 0,.slice none 0 0] 221)).alloc (.cells #[.i 0,.i 0,.i 0,.i 0,.slice none 0 0,.slice none 0 0] 221));have R0:RX w w0 bx 0 0 0 0 (.slice none 0 0) (.slice none 0 0) [] []:=by
  rw[<-hw0,<-hbx];refine⟨(fR.alloc _).alloc _,?_,?_,eA _ _ _ _,eA _ _ _ _,rfl⟩
  .rw[ei _ _ _ (by simp)];exact di w _
  have:=di (w.alloc (.cells #[.i 0,.i 0,.i 0,.i 0,.slice none 0 0,.slice none 0 0] 221)) (.cells #[.i 0,.i 0,.i 0,.i 0,.slice none 0 0,.slice none 0 0] 221);simpa using this
 have xG:=Hd R0;obtain⟨y0,y1,y2,y3,y4,y5⟩:=R0.kQ;have z0:=R0.aY 0;have z1:=R0.aY 1;have z2:=R0.aY 2;have z3:=R0.aY 3;have z4:=R0.aY 4;have z5:=R0.aY 5;obtain⟨x0,x1,x2,x3,x4,x5⟩:=R0.jP;clear R0;have dV:=hw0;clear hw0;clear hck hcc hce;go_enter Tryz.func127,Tryz.ntmps127;go_wp2;go_region_held3 (λ_=>True)
  (first|trivial|go_keep)
  (first
    |(go_at_call 59;refine(HC.o _).mono ?_;rintro e w5 ⟨rfl,f5⟩;have H5:Hid (RX w w5 bx 0 0 0 0 (.slice none 0 0) (.slice none 0 0) [] []):=xG.o.same (by first|exact f5|exact(Fr.drew fR).trans f5 (by simp)|exact(Fr.drewN fR _).trans f5 (by simp));clear f5))
 all_goals
  clear y0 y1 y2 y3 y4 y5 z0 z1 z2 z3 z4 z5 x0 x1 x2 x3 x4 x5;obtain⟨y0,y1,y2,y3,y4,y5⟩:=H5.o.kQ;have z0:=H5.o.aY 0;have z1:=H5.o.aY 1;have z2:=H5.o.aY 2;have z3:=H5.o.aY 3;have z4:=H5.o.aY 4;have z5:=H5.o.aY 5;obtain⟨x0,x1,x2,x3,x4,x5⟩:=H5.o.jP;go_wp2;refine ez (v:=.tuple #[.agg #[.i 0,.i 0,.i 0,.i 0,.slice none 0 0,.slice none 0 0],.bool false]) ?_ rfl ⟨⟨_,rfl,six⟩,?_⟩
  .rw[results_cell_tmp rfl];go_simp
  refine H5.o.wQ ?_ _ _ _ _ _ _;first|exact fR|exact fR.drew|exact fR.drewN _
theorem Gg:(Tryz.prog.info? 9).map (λi=>(i.zero,i.size,i.bytes))=some (some (.t ⟨#[]⟩),1,16):=by kernel_rfl
section
variable {w W w9:World}{bx:Nat}{f t m nb:Int}{vN vD v9:Value}{N:List Int}{D:List cC}
theorem RX.UM(h:RX w W bx f t m nb vN vD N D){z:Int}(ho:w9.ownsRow w.heap.size 3 1 v9 (N.length+1) (N.map (Value.int .i64)++[.i z]))(hg:W.grownBy w9 vN.ownBlock):
 RX w (w9.setCell (Ad (bx+1) 4) v9) bx f t m nb v9 vD (N++[z]) D∧w9.cell? (Ad (bx+1) 4)=some vN∧w9.frozen? (Ad (bx+1) 4)=false:=by
 obtain⟨a1,a2,a3⟩:=h.far;have hge:=h.ge;have l0:=(cY.1 h.bz).1;have l1:=(cY.1 h.bo).1;have Ym:w9.heap[bx]?=_:=(hg.block bx l0 (λe=>(a1 bx e.symm).1 rfl)).trans h.bz;have LZ:w9.heap[bx+1]?=_:=(hg.block (bx+1) l1 (λe=>(a1 _ e.symm).2 rfl)).trans h.bo;have f9:=h.fr.grown hg (λk hk=>Or.inr (h.nr.lt k hk).1);have iR:∀k,v9.ownBlock=some k->k≠bx+1:=λk hk e=>by obtain⟨_,cur,h2⟩:=av ho hk;rw[e,LZ]at h2;simp at h2
 refine⟨⟨f9.setCell _ (Or.inr (by show w.heap.size≤bx+1;omega)),?_,?_,?_,?_,hge⟩,?_,ay LZ _⟩
 .rw[de _ _ _ _ (by show bx≠bx+1;omega)];exact Ym
 .rw[dy w9 (bx+1) 4 _ _ _ LZ];rfl
 .refine aj (w:=w9) ?_ (λk hk=>de _ _ _ _ (iR k hk));rw[dE,fj];exact ho
 .refine aj h.dr (λk hk=>?_);rw[de _ _ _ _ (a2 k hk).2];exact hg.block k (h.dr.lt k hk).2 (λe=>a3 k e.symm hk)
 rw[cell_of LZ];rfl
theorem RX.UN(h:RX w W bx f t m nb vN vD N D){z:cC}(ho:w9.ownsRow w.heap.size 9 1 v9 (D.length+1) (D.map Value.string++[.t z]))(hg:W.grownBy w9 vD.ownBlock):
 RX w (w9.setCell (Ad (bx+1) 5) v9) bx f t m nb vN v9 N (D++[z])∧w9.cell? (Ad (bx+1) 5)=some vD∧w9.frozen? (Ad (bx+1) 5)=false:=by
 obtain⟨a1,a2,a3⟩:=h.far;have hge:=h.ge;have l0:=(cY.1 h.bz).1;have l1:=(cY.1 h.bo).1;have Ym:w9.heap[bx]?=_:=(hg.block bx l0 (λe=>(a2 bx e.symm).1 rfl)).trans h.bz;have LZ:w9.heap[bx+1]?=_:=(hg.block (bx+1) l1 (λe=>(a2 _ e.symm).2 rfl)).trans h.bo;have f9:=h.fr.grown hg (λk hk=>Or.inr (h.dr.lt k hk).1);have iR:∀k,v9.ownBlock=some k->k≠bx+1:=λk hk e=>by obtain⟨_,cur,h2⟩:=av ho hk;rw[e,LZ]at h2;simp at h2
 refine⟨⟨f9.setCell _ (Or.inr (by show w.heap.size≤bx+1;omega)),?_,?_,?_,?_,hge⟩,?_,ay LZ _⟩
 .rw[de _ _ _ _ (by show bx≠bx+1;omega)];exact Ym
 .rw[dy w9 (bx+1) 5 _ _ _ LZ];rfl
 .refine aj h.nr (λk hk=>?_);rw[de _ _ _ _ (a1 k hk).2];exact hg.block k (h.nr.lt k hk).2 (λe=>a3 k hk e.symm)
 .refine aj (w:=w9) ?_ (λk hk=>de _ _ _ _ (iR k hk));rw[dE,fj];exact ho
 rw[cell_of LZ];rfl
end
theorem zn{B:Nat}{w:World}{b:Nat}{q:Int}{s:aK}{k:Nat}{cur:Array Value}{t:TypeId}{fr:Nat×Nat}(h:aC B w b q s)(hk:w.heap[k]?=some (.cells cur t fr))(ht:t≠136∧t≠155∧t≠138∧t≠150∧t≠5):k∉foot b s:=by
 intro hm;simp only[foot,dT,ek,fy,or_false,gd]at hm;rcases hm with(((rfl|rfl|rfl)|h1)|h1)|h1
 .rw[h.blk]at hk;simp[aK.blk]at hk;exact ht.1 hk.2.1.symm
 .rw[h.aL]at hk;simp at hk;exact ht.2.1 hk.2.1.symm
 .obtain⟨es,c,h1⟩:=h.th.at
  rw[h1]at hk;simp at hk
 .obtain⟨_,cur',h2⟩:=av h.ss h1;rw[h2]at hk;simp at hk;exact ht.2.2.1 hk.2.1.symm
 .obtain⟨_,cur',h2⟩:=av h.ms h1;rw[h2]at hk;simp at hk;exact ht.2.2.2.1 hk.2.1.symm
 obtain⟨_,cur',h2⟩:=av h.lg h1;rw[h2]at hk;simp at hk;exact ht.2.2.2.2 hk.2.1.symm
def World.sJ(w:World)(vb k:Nat)(x:Ct):World:=
 ((((w.setCell (Ad vb (k*5)) (.u (x.x.a.toNat:Int))).setCell (Ad vb (k*5+1)) (.u (x.x.b.toNat:Int))).setCell (Ad vb (k*5+2)) (.u (x.x.c.toNat:Int))).setCell (Ad vb (k*5+3)) (.u (x.x.d.toNat:Int))).setCell (Ad vb (k*5+4)) (.i x.n)
theorem nD(w:World)(vb k:Nat)(x:Ct)(j:Nat)(hj:j≠vb):(World.sJ w vb k x).heap[j]?=w.heap[j]?:=by unfold World.sJ;rw[de _ _ _ _ hj,de _ _ _ _ hj,de _ _ _ _ hj,de _ _ _ _ hj,de _ _ _ _ hj]
theorem aC.sJ{B:Nat}{w:World}{b:Nat}{q:Int}{s:aK}(h:aC B w b q s)(k:Nat)(x:Ct)(hk:k<s.aL.length):aC B (World.sJ w s.vb k x) b q {s with aL:=s.aL.set k x}:=by
 obtain⟨a1,a2,a3,a4,a5,a6⟩:=h.apart;have ho:=nD w s.vb k x;refine⟨?_,?_,?_,?_,?_,?_,h.hb,h.hvb,h.hmb⟩
 .rw[ho b (Ne.symm a1),h.blk];simp[aK.blk]
 .show(World.sJ w s.vb k x).heap[s.vb]?=some (.cells (mO (s.aL.set k x)).toArray 155 (0,0));have h1:=dy w s.vb (k*5) _ _ (.u (x.x.a.toNat:Int)) h.aL;have h2:=dy _ s.vb (k*5+1) _ _ (.u (x.x.b.toNat:Int)) h1;have h3:=dy _ s.vb (k*5+2) _ _ (.u (x.x.c.toNat:Int)) h2;have h4:=dy _ s.vb (k*5+3) _ _ (.u (x.x.d.toNat:Int)) h3;have h5:=dy _ s.vb (k*5+4) _ _ (.i x.n) h4;unfold World.sJ;rw[h5,<-NA s.aL k x.x x.n hk];simp[u8]
 .exact aj h.ss (λj hj=>ho j (a4 j hj).2.1)
 .exact h.th.of_block (ho s.mb a3)
 .exact aj h.ms (λj hj=>ho j (a5 j hj).2.1)
 exact aj h.lg (λj hj=>ho j (a6 j hj).2.1)
theorem LH{F:List Nat}{w w1:World}{vb k:Nat}{x:Ct}(h:Fr F w w1)(hv:vb∈F):Fr F w (World.sJ w1 vb k x):=
 ((((h.setCell _ (Or.inl hv)).setCell _ (Or.inl hv)).setCell _ (Or.inl hv)).setCell _ (Or.inl hv)).setCell _ (Or.inl hv)
def vk(s:aK)(f:Int)(k:Nat):List Ct:=(List.range k).map (λj:Nat=>s.th f (j:Int))++s.aL.drop k
theorem LJ(s:aK)(f:Int):vk s f 0=s.aL:=by simp[vk]
theorem sM(s:aK)(f:Int)(k:Nat)(h:k≤s.aL.length):(vk s f k).length=s.aL.length:=by simp[vk];omega
theorem LK(s:aK)(f:Int)(k:Nat)(h:k<s.aL.length):(vk s f k).set k (s.th f (k:Int))=vk s f (k+1):=by unfold vk;rw[fl _ _ (by simp),eN h,eI,List.length_range,Nat.sub_self,List.set_cons_zero,jn,fj,jj];rfl
def fv(c:Int)(v:List Ct)(l:List (Int×B4)):List Ct:=l.foldl (λv o=>v.set o.1.toNat ⟨o.2,c⟩) v
theorem sN(c:Int):∀(l:List (Int×B4))(v:List Ct),(fv c v l).length=v.length
 |[],_=>rfl
 |x::r,v=>by have:=sN c r (v.set x.1.toNat ⟨x.2,c⟩);rw[eR]at this;exact this
theorem LP(c:Int)(v:List Ct)(l:List (Int×B4))(k:Nat)(h:k<l.length):fv c v (l.take (k+1))=(fv c v (l.take k)).set l[k].1.toNat ⟨l[k].2,c⟩:=by unfold fv;rw[ew h,List.foldl_append];rfl
def gL(s:aK)(f:Int)(l:List (Int×B4)):List Ct:=fv s.came (vk s f s.aL.length) l
def aK.recv(s:aK)(f t m:Int)(l:List (Int×B4))(tx:cC)(sv lv:Value):aK:=(aK.add {s with aL:=gL s f l} t m sv).noted 84 tx lv
structure RJ(B b:Nat)(w wr:World)(s:aK)(V:List Ct)(bx:Nat)(f t m:Int)(n:Nat)(v:Value)(l:List (Int×B4)):Prop where
 rep:aC B wr b 1 {s with aL:=V}
 fr:Fr (foot b s) w wr
 box:wr.heap[bx]?=some (.cells #[.i f,.i t,.i m,.i n,v] 161 (0,0))
 row:wr.ownsRow w.heap.size 165 5 v l.length (jw l)
theorem RJ.put{B b:Nat}{w wr:World}{s:aK}{V:List Ct}{bx:Nat}{f t m:Int}{n:Nat}{v:Value}{l:List (Int×B4)}(h:RJ B b w wr s V bx f t m n v l)(k:Nat)(x:Ct)(hk:k<V.length):RJ B b w (World.sJ wr s.vb k x) s (V.set k x) bx f t m n v l:=by
 have h2:wr.heap[s.vb]?=some (.cells (mO V).toArray 155 (0,0)):=h.rep.aL;have hx:bx≠s.vb:=λe=>by have h1:=h.box;rw[<-e,h1]at h2;simp at h2
 have hr:=h.rep.sJ k x hk;refine⟨hr,LH h.fr (by simp[foot]),?_,aj h.row (λj hj=>nD _ _ _ _ _ (λe=>?_))⟩
 .rw[nD _ _ _ _ _ hx];exact h.box
 obtain⟨_,cur,h1⟩:=av h.row hj;rw[<-e,h1]at h2;simp at h2
theorem RJ.same{B b:Nat}{w wr w':World}{s:aK}{V:List Ct}{bx:Nat}{f t m:Int}{n:Nat}{v:Value}{l:List (Int×B4)}(h:RJ B b w wr s V bx f t m n v l)(hf:Fr [] wr w'):RJ B b w w' s V bx f t m n v l:=
 ⟨h.rep.aA hf,h.fr.trans hf (by simp),by rw[hf.block bx (cY.1 h.box).1 (by simp)];exact h.box,bD h.row hf⟩
theorem RJ.aL{B b:Nat}{w wr:World}{s:aK}{V:List Ct}{bx:Nat}{f t m:Int}{n:Nat}{v:Value}{l:List (Int×B4)}(h:RJ B b w wr s V bx f t m n v l)(k:Nat)(hk:k<V.length):∃z:Ct,wr.cell? (Ad s.vb (k*5))=some (.u (z.x.a.toNat:Int))∧wr.cell? (Ad s.vb (k*5+1))=some (.u (z.x.b.toNat:Int))∧wr.cell? (Ad s.vb (k*5+2))=some (.u (z.x.c.toNat:Int))∧wr.cell? (Ad s.vb (k*5+3))=some (.u (z.x.d.toNat:Int))∧wr.cell? (Ad s.vb (k*5+4))=some (.i z.n)∧∀j,wr.frozen? (Ad s.vb j)=false:=by
 have h2:wr.heap[s.vb]?=some (.cells (mO V).toArray 155 (0,0)):=h.rep.aL;obtain⟨g0,g1,g2,g3,g4⟩:=xJ V k hk;refine⟨V[k],?_,?_,?_,?_,?_,λj=>ay h2 j⟩
 .rw[cell_of h2,dq,g0];rfl
 .rw[cell_of h2,dq,g1];rfl
 .rw[cell_of h2,dq,g2];rfl
 .rw[cell_of h2,dq,g3];rfl
 rw[cell_of h2,dq,g4]
theorem Bl(B b:Nat)(s:aK)(tx:cC)(w:World)(h:aC B w b 0 s)(f t m:Int)(l:List (Int×B4))
 (hp:∀W,Cl 125 #[.t tx] W λe w'=>∃v,e=.returned (.tuple #[.agg #[.i f,.i t,.i m,.i (s.aL.length:Int),v],.bool true])∧w'.ownsRow W.heap.size 165 5 v l.length (jw l)∧Fr [] W w')
 (hs:s.ss.length<12)(hms:s.ms.length≤12)(hf1:fi (λy:Sn=>y.au==t) 0 s.ss=-1)(hf2:fi (λy:Int×Int=>y.1==t) 0 s.ms=-1)(hlast:f=gy s.ss)
 (hr:∀k(h:k<l.length),0≤l[k].1∧l[k].1<s.aL.length)(hll:l.length≤16)(IK:In64 f)(oI:In64 t)(hc:0≤s.came∧s.came≤1000000000000)(hv:s.aL.length≤16)(hcnt:s.cnt+s.aL.length<maxLen)(Uq:s.log.length≤140000000000000)(htx:tx.size≤1000):
 Rc 80 #[.p b,.t tx] w (.tuple #[.i t,.i 0]) λw'=>∃sv lv,aC B w' b 0 (s.recv f t m l tx sv lv)∧Fr (foot b s) w w'∧(∀k,sv.ownBlock=some k->s.sv.ownBlock=some k∨w.heap.size≤k)∧(∀k,lv.ownBlock=some k->s.lv.ownBlock=some k∨w.heap.size≤k):=by
 have R1:=h.lock 1;obtain⟨w1,hw1⟩:=eX (w.setCell (Ad b 0) (.int .i32 1));rw[hw1]at R1;have HL:=lock_free Tryz.muLib (Ad b 0) w h.cells.1 (h.frozen 0);have F1:Fr (foot b s) w w1:=by rw[<-hw1];exact aV b s w _
 have HF:=Hj3 hw1 R1 F1;obtain⟨nv,jR⟩:=eX s.aL.length;rw[jR]at hp hr hv hcnt;have HP:=Hd hp;have VQ:Hid (∀W v,aC B W b 1 s->(∃a n c,v=.slice a n c)->Rc 126 #[.p b,.agg #[.i f,.i t,.i m,.i (nv:Int),v]] W (.i 0) λw'=>Fr [] W w'):=λW v hW hv=>by have:=zQ B b 1 s f t m v W hW (Nat.le_of_lt hs) hms hv hf1 hf2 0 (.inr ⟨hlast,.inr ⟨hs,rfl⟩⟩);rw[jR]at this;exact this
 have Ng:Hid (s.aL.length=nv∧In64 f∧In64 t∧(∀k(h:k<l.length),0≤l[k].1∧l[k].1<nv)∧w.heap.size=w.heap.size):=⟨jR,IK,oI,hr,rfl⟩;have HAd:Hid (∀W,aC B W b 1 {s with aL:=gL s f l}->Rc 118 #[.p b,.i t,.i m] W (.tuple #[]) λw'=>∃sv,aC B w' b 1 (aK.add {s with aL:=gL s f l} t m sv)∧Fr (foot b s) W w'∧(∀k,sv.ownBlock=some k->s.sv.ownBlock=some k∨W.heap.size≤k)):=λW hW=>by
  have e:(gL s f l).length=nv:=by unfold gL;rw[sN,sM _ _ _ (eh _),jR]
  exact BP B b 1 {s with aL:=gL s f l} t m W hW hs hc (by show(gL s f l).length≤16;omega) (by show s.cnt+(gL s f l).length<maxLen;omega) oI
 have oF:=Hd λW sv hW=>gD B b 1 (aK.add {s with aL:=gL s f l} t m sv) 84 tx W hW htx Uq;unfold aK.recv;clear h R1 F1 hw1 hp hf1 hf2 hlast hr IK oI hc hcnt Uq htx hs hms jR;go_enter_defers Tryz.func80,Tryz.ntmps80;go_wp2_with (first
  |(go_at_call 50;refine HL.mono ?_;rintro e w' ⟨rfl,hw'⟩;rw[HF.o.1]at hw';have hw':=hw'.symm;subst hw')
  |(go_at_call 125;refine(HP.o _).mono ?_;rintro e w2 ⟨v,rfl,o2,hfr⟩;obtain⟨va,vc,hva⟩:=ah o2;subst hva;have HR2:Hid (RJ B b w (w2.alloc (.cells #[.i f,.i t,.i m,.i (nv:Int),.slice va l.length vc] 161)) s s.aL w2.heap.size f t m nv (.slice va l.length vc) l):=⟨(HF.o.2.1.aA hfr).aA (fR.alloc _),(HF.o.2.2.trans hfr (by simp)).alloc _,di w2 _,(by have o3:=o2.alloc (.cells #[.i f,.i t,.i m,.i (nv:Int),.slice va l.length vc] 161);refine⟨o3.1,?_⟩;rcases o3.2 with h0|⟨g,cap,cur,h1,h2,r⟩;exact .inl h0;exact .inr ⟨g,cap,cur,h1,eJ HF.o.2.2.size h2,r⟩)⟩;clear hfr o2)
  |(go_at_call 126;refine(VQ.o _ _ HR2.o.rep ⟨_,_,_,rfl⟩).mono ?_;rintro e w3 ⟨rfl,hfr⟩;have HR3:=Hd (HR2.o.same hfr);have c3:w3.cell? (Ad b 3)=some (.slice (some (Ad s.vb 0)) nv nv):=(by rw[<-Ng.o.1];exact HR3.o.rep.cells.2.2.1);clear hfr))
 obtain⟨bx,hbx⟩:=eX w2.heap.size;rw[hbx]at HR3;rw[hbx];clear HR2 hbx HL HP VQ;go_loopw [37] (λi wr=>∃k:Nat,k≤nv∧i=.i k∧Hid (RJ B b w wr s (vk s f k) bx f t m nv (.slice va l.length vc) l)) (λi _=>nv-(intOf i).toNat)
 case atStart=>exact⟨0,dC _,rfl,by rw[LJ];exact HR3⟩
 obtain⟨k,hk,rfl,HK⟩:=hrel;obtain⟨W3,hW3⟩:=eY wr;subst hW3;clear HR3 c3;have hvl:(vk s f k).length=nv:=by rw[sM _ _ _ (by rw[Ng.o.1];exact hk),Ng.o.1]
 by_cases hlt:k<nv
 .have hltz:(k:Int)<(nv:Int):=by omega
  obtain⟨z,v0,v1,v2,v3,v4,vz⟩:=HK.o.aL k (by omega);have z0:=vz (k*5);have z1:=vz (k*5+1);have z2:=vz (k*5+2);have z3:=vz (k*5+3);have z4:=vz (k*5+4);have j3:W3.cell? (Ad b 3)=some (.slice (some (Ad s.vb 0)) nv nv):=by have:=HK.o.rep.cells.2.2.1;simp only[hvl]at this;exact this
  have j5:cD W3 b 5 (.map (some s.mb)):=HK.o.rep.cells.2.2.2.2.1;have x0:cE W3 bx 0 f:=ce HK.o.box rfl;have PL:(Instr.lookup 132 (.map (some s.mb)) (.agg #[.i f,.i k]) false).run Tryz.prog W3=.ok (s.th f (k:Int)).val W3:=HK.o.rep.look Ng.o.2.1 (i:=(k:Int)) ⟨by omega,by omega⟩;have X9:(Instr.lookup 132 (.map (some s.mb)) (.agg #[.i f,.i k]) false).run Tryz.prog W3.drew=.ok (s.th f (k:Int)).val W3.drew:=(HK.o.rep.aA fR.drew).look Ng.o.2.1 (i:=(k:Int)) ⟨by omega,by omega⟩;have VR:Hid (RJ B b w (World.sJ W3 s.vb k (s.th f (k:Int))).drew s (vk s f (k+1)) bx f t m nv (.slice va l.length vc) l):=by have:=(HK.o.put k (s.th f (k:Int)) (by omega)).same fR.drew;rw[LK s f k (by rw[Ng.o.1];exact hlt)]at this;exact this
  obtain⟨y,hy⟩:=eX (s.th f (k:Int));rw[hy]at PL X9 VR;have lk:(Instr.lookup 132 (.map (some s.mb)) (.agg #[.i f,.i k]) false).run Tryz.prog W3=.ok (.agg #[.u (y.x.a.toNat:Int),.u (y.x.b.toNat:Int),.u (y.x.c.toNat:Int),.u (y.x.d.toNat:Int),.i y.n]) W3:=PL;have lk2:(Instr.lookup 132 (.map (some s.mb)) (.agg #[.i f,.i k]) false).run Tryz.prog W3.drew=.ok (.agg #[.u (y.x.a.toNat:Int),.u (y.x.b.toNat:Int),.u (y.x.c.toNat:Int),.u (y.x.d.toNat:Int),.i y.n]) W3.drew:=X9;clear PL X9 hy vz hvl;go_wp2;refine wp_region_noPanic ?_;go_region;refine NoPanic.normal ?_;go_wp2;go_roundw
  case rel=>exact⟨k+1,by omega,by go_num,VR⟩
  simp[intOf];omega
 have hkk:k=nv:=by omega
 subst hkk;have x4:cD W3 bx 4 (.slice va l.length vc):=ce HK.o.box rfl;obtain⟨V,hV⟩:=eX (vk s f k);rw[hV]at hvl;have Z6:Hid (vk s f k=V∧V.length=k∧gL s f l=fv s.came V l):=⟨hV,hvl,by unfold gL;rw[Ng.o.1,hV]⟩;rw[hV]at HK;clear hV hvl;go_wp2;go_loopw [59] (λi wr=>∃j:Nat,j≤l.length∧i=.i j∧Hid (RJ B b w wr s (fv s.came V (l.take j)) bx f t m k (.slice va l.length vc) l)) (λi _=>l.length-(intOf i).toNat)
 case atStart=>exact⟨0,dC _,rfl,by simpa[fv]using HK⟩
 obtain⟨j,hj,rfl,HJ⟩:=hrel;obtain⟨W4,iI⟩:=eY wr;subst iI;clear HK x4;have hfl:(fv s.came V (l.take j)).length=k:=by rw[sN];exact Z6.o.2.1
 by_cases hlt2:j<l.length
 .have hltz:(j:Int)<(l.length:Int):=by omega
  obtain⟨lg,qo,MG,hcc⟩:=bR HJ.o.row (by omega);subst qo;have hb5:=mF l j hlt2;have M0:=Ng.o.2.2.2.1 j hlt2;have hsu:=LP s.came V l j hlt2;obtain⟨x,hx⟩:=eX l[j];rw[hx]at hb5 M0 hsu;obtain⟨x1,x2⟩:=x;simp only at hb5 M0 hsu;obtain⟨p,hp⟩:∃p:Nat,x1=(p:Int):=⟨x1.toNat,by omega⟩;subst hp;have hpk:p<k:=by omega
  have hpz:(p:Int)<(k:Int):=by omega
  have hp0:(0:Int)≤(p:Int):=by omega
  rw[Int.toNat_natCast]at hsu;have d0:W4.cell? (Ad lg (j*5))=some (.i (p:Int)):=by rw[hcc _ (by omega)];exact hb5.1
  have d1:W4.cell? (Ad lg (j*5+1))=some (.u (x2.a.toNat:Int)):=by rw[hcc _ (by omega)];exact hb5.2.1
  have d2:W4.cell? (Ad lg (j*5+2))=some (.u (x2.b.toNat:Int)):=by rw[hcc _ (by omega)];exact hb5.2.2.1
  have d3:W4.cell? (Ad lg (j*5+3))=some (.u (x2.c.toNat:Int)):=by rw[hcc _ (by omega)];exact hb5.2.2.2.1
  have d4:W4.cell? (Ad lg (j*5+4))=some (.u (x2.d.toNat:Int)):=by rw[hcc _ (by omega)];exact hb5.2.2.2.2
  obtain⟨W5,kJ⟩:=eX (W4.alloc (.cells #[.i (p:Int),.u (x2.a.toNat:Int),.u (x2.b.toNat:Int),.u (x2.c.toNat:Int),.u (x2.d.toNat:Int)] 165));obtain⟨b9,IX⟩:=eX W4.heap.size;have n9:W5.heap[b9]?=some (.cells #[.i (p:Int),.u (x2.a.toNat:Int),.u (x2.b.toNat:Int),.u (x2.c.toNat:Int),.u (x2.d.toNat:Int)] 165 (0,0)):=by rw[<-kJ,<-IX];exact di W4 _
  have VT:Hid (RJ B b w W5 s (fv s.came V (l.take j)) bx f t m k (.slice (some (Ad lg 0)) l.length vc) l):=by rw[<-kJ];exact HJ.o.same (fR.alloc _)
  obtain⟨z,v0,v1,v2,v3,v4,vz⟩:=VT.o.aL p (by omega);have z0:=vz (p*5);have z1:=vz (p*5+1);have z2:=vz (p*5+2);have z3:=vz (p*5+3);have z4:=vz (p*5+4);have g0:cE W5 b9 0 (p:Int):=ce n9 rfl;have g1:cD W5 b9 1 (.u (x2.a.toNat:Int)):=ce n9 rfl;have g2:cD W5 b9 2 (.u (x2.b.toNat:Int)):=ce n9 rfl;have g3:cD W5 b9 3 (.u (x2.c.toNat:Int)):=ce n9 rfl;have g4:cD W5 b9 4 (.u (x2.d.toNat:Int)):=ce n9 rfl;have j3:W5.cell? (Ad b 3)=some (.slice (some (Ad s.vb 0)) k k):=by have:=VT.o.rep.cells.2.2.1;simp only[hfl]at this;exact this
  have j7:cE W5 b 7 s.came:=VT.o.rep.cells.2.2.2.2.2.2.1;have VR:Hid (RJ B b w (World.sJ W5 s.vb p ⟨x2,s.came⟩).drew s (fv s.came V (l.take (j+1))) bx f t m k (.slice (some (Ad lg 0)) l.length vc) l):=by have:=(VT.o.put p ⟨x2,s.came⟩ (by omega)).same fR.drew;rw[<-hsu]at this;exact this
  clear vz hfl hcc hb5 hx hsu M0 n9 HJ;go_wp2;clear kJ IX d0 d1 d2 d3 d4;refine wp_region_noPanic ?_;go_region;refine NoPanic.normal ?_;go_wp2;go_roundw
  case rel=>exact⟨j+1,by omega,by go_num,VR⟩
  simp[intOf];omega
 have hjj:j=l.length:=by omega
 subst hjj;have HE:Hid (RJ B b w W4 s (gL s f l) bx f t m k (.slice va l.length vc) l):=by have:=HJ.o;rw[kf]at this;rw[Z6.o.2.2];exact this
 have x1:cE W4 bx 1 t:=ce HE.o.box rfl;have x2:cE W4 bx 2 m:=ce HE.o.box rfl;clear HJ hfl;have IV:Hid (∀W,Fr (foot b s) W4 W->W.heap[bx]?=some (.cells #[.i f,.i t,.i m,.i k,.slice va l.length vc] 161 (0,0))):=λW hW=>by have hn:=zn HE.o.rep HE.o.box (by decide);rw[hW.block bx (cY.1 HE.o.box).1 hn];exact HE.o.box
 go_wp2_with (first
  |(go_at_call 118;refine(HAd.o _ HE.o.rep).mono ?_;rintro e w5 ⟨rfl,sv,r5,f5,a5⟩;have mZ:Hid (aC B w5 b 1 (aK.add {s with aL:=gL s f l} t m sv)∧Fr (foot b s) w w5∧(∀k,sv.ownBlock=some k->s.sv.ownBlock=some k∨w.heap.size≤k)∧Fr (foot b s) W4 w5):=⟨r5,HE.o.fr.trans f5 (λk hk=>Or.inl hk),λk hk=>(a5 k hk).imp_right (λh=>eJ HE.o.fr.size h),f5⟩;clear r5 f5 a5)
  |(go_at_call 113;refine(oF.o _ sv mZ.o.1).mono ?_;rintro e w6 ⟨rfl,lv,r6,f6,a6⟩;have dJ:Hid (aC B w6 b 1 ((aK.add {s with aL:=gL s f l} t m sv).noted 84 tx lv)∧Fr (foot b s) w w6∧(∀k,lv.ownBlock=some k->s.lv.ownBlock=some k∨w.heap.size≤k)):=⟨r6,mZ.o.2.1.trans f6 (λk hk=>xD (s:={s with aL:=gL s f l}) (n:=s.taken) mZ.o.2.2.1 hk),λk hk=>(a6 k hk).imp_right (λh=>eJ mZ.o.2.1.size h)⟩;have x6:w6.cell? (Ad bx 1)=some (.i t):=(by have hh:=IV.o w5 mZ.o.2.2.2;have hn:=zn mZ.o.1 hh (by decide);have h6:=(f6.block bx (cY.1 hh).1 hn).trans hh;rw[cell_of h6];rfl);clear r6 f6 a6))
 refine leaves_cons (f:=51) (args:=#[.p b]) (by simp) (by simp[go_sem]) ?_;refine(eK Tryz.muLib (Ad b 0) .returning _ dJ.o.1.cells.1 (dJ.o.1.frozen 0)).mono ?_;rintro e u' w'' ⟨rfl,rfl,rfl⟩;exact⟨_,ft rfl _ _ _,rfl,sv,lv,dJ.o.1.lock 0,dJ.o.2.1.setCell _ (Or.inl (by simp[foot])),mZ.o.2.2.1,dJ.o.2.2⟩
theorem wO(B b:Nat)(s:aK)(t:cC)(w:World)(h:aC B w b 0 s)(hp:∀W,Rc 125 #[.t t] W (.tuple #[jZ,.bool false]) λw'=>Fr [] W w'):
 Rc 80 #[.p b,.t t] w (.tuple #[.i 0,.i 2]) λw'=>aC B w' b 0 s∧Fr (foot b s) w w':=by
 have R1:=h.lock 1;obtain⟨w1,hw1⟩:=eX (w.setCell (Ad b 0) (.int .i32 1));rw[hw1]at R1;have HL:=lock_free Tryz.muLib (Ad b 0) w h.cells.1 (h.frozen 0);have F1:Fr (foot b s) w w1:=by rw[<-hw1];exact aV b s w _
 have HF:=Hj3 hw1 R1 F1;have HP:Hid (∀W,Rc 125 #[.t t] W (.tuple #[.agg #[.i 0,.i 0,.i 0,.i 0,.slice none 0 0],.bool false]) λw'=>Fr [] W w'):=hp;clear h R1 F1 hw1 hp;go_enter_defers Tryz.func80,Tryz.ntmps80;go_wp2_with (first
  |(go_at_call 50;refine HL.mono ?_;rintro e w' ⟨rfl,hw'⟩;rw[HF.o.1]at hw';have hw':=hw'.symm;subst hw')
  |(go_at_call 125;refine(HP.o _).mono ?_;rintro e w2 ⟨rfl,hfr⟩;have HR2:Hid (aC B (w2.alloc (.cells #[.i 0,.i 0,.i 0,.i 0,.slice none 0 0] 161)) b 1 s∧Fr (foot b s) w (w2.alloc (.cells #[.i 0,.i 0,.i 0,.i 0,.slice none 0 0] 161))):=⟨(HF.o.2.1.aA hfr).aA (fR.alloc _),(HF.o.2.2.trans hfr (by simp)).alloc _⟩;clear hfr))
 refine leaves_cons (f:=51) (args:=#[.p b]) (by simp) (by simp[go_sem]) ?_;refine(eK Tryz.muLib (Ad b 0) .returning _ HR2.o.1.cells.1 (HR2.o.1.frozen 0)).mono ?_;rintro e u' w'' ⟨rfl,rfl,rfl⟩;exact⟨_,ft rfl _ _ _,rfl,HR2.o.1.lock 0,HR2.o.2.setCell _ (Or.inl (by simp[foot]))⟩
end Go.Proofs.YtjceeemlilnplaaGreatDoor
