import Derived.Test.YtjceeemlilnplaaGreatDoorM15
import Derived.Test.YtjceeemlilnplaaGreatDoorM11
set_option maxRecDepth 100000
set_option maxHeartbeats 12800000
set_option linter.all false
namespace Go.Proofs.YtjceeemlilnplaaGreatDoor
open Go.RowKit Go.Maps Go.MuLone
attribute [-go_sem] Instr.loadAt Instr.storeAt
theorem LV:(Tryz.prog.info? 221).map (·.size)=some 6:=by kernel_rfl
theorem sV(W:World)(z:Array Value)(f t m n:Int)(p1:Option Addr)(n1 c1:Nat)(p2:Option Addr)(n2 c2:Nat)(hz:z.size=6):(Instr.storeAt 221 (.p W.heap.size) (.agg #[.i f,.i t,.i m,.i n,.slice p1 n1 c1,.slice p2 n2 c2])).run Tryz.prog (W.alloc (.cells z 221))=.ok () (W.alloc (.cells #[.i f,.i t,.i m,.i n,.slice p1 n1 c1,.slice p2 n2 c2] 221)):=
 run_storeAt_new W 221 z _ LV (by rw[hz];rfl) (by simp[Value.oneCell'])
theorem Bt(b:Nat)(tx:cC)(w:World)(hp:∀W,Cl 127 #[.t tx] W λe w'=>(∃x,e=.returned (.tuple #[.agg x,.bool false])∧wI x)∧Fr [] W w'):
 Rc 81 #[.p b,.t tx] w (.tuple #[.i 0,.i 2]) λw'=>Fr [] w w':=by
 have Bu:=Hd hp;have hst:=sV;clear hp;go_enter Tryz.func81,Tryz.ntmps81;go_wp2_with (first
  |(go_at_call 127;refine(Bu.o _).mono ?_;rintro e w5 ⟨⟨x,rfl,a1,a2,a3,a4,p1,n1,c1,p2,n2,c2,rfl⟩,f5⟩;have H5:=Hd f5;clear f5))
 go_ret2;exact⟨rfl,H5.o.alloc _⟩
theorem Bz(B b:Nat)(s:ak)(tx:cC)(w:World)(h:aG B w b s)(f t m:Int)(nb ln:Nat)(l:List (Int×B4))(hp:∀W,Cl 127 #[.t tx] W λe w'=>∃vN vD,e=.returned (.tuple #[.agg #[.i f,.i t,.i m,.i (nb:Int),vN,vD],.bool true])∧w'.ownsRow W.heap.size 3 1 vN ln (l.map λx=>Value.i x.1)∧w'.ownsRow W.heap.size 9 1 vD ln (l.map λx=>Value.t x.2.ba)∧Fr [] W w')(E:Int)(hC:((nb:Int)≠s.blocks∧E=6)∨s.sh.length≤12∧s.ms.length≤12∧(nb:Int)=s.blocks∧((s.sh.any (λx=>x.au==t)||s.ms.any (λx=>x.1==t))=true∧E=7∨(s.sh.any (λx=>x.au==t)||s.ms.any (λx=>x.1==t))=false∧(f≠aI s∧E=6∨f=aI s∧12≤s.sh.length∧E=5))):
 Rc 81 #[.p b,.t tx] w (.tuple #[.i 0,.i E]) λw'=>Fr [] w w':=by
 have Bu:=Hd hp;have HR:=Hd h;obtain⟨ao,cap,hsv⟩:=ah h.sh;obtain⟨sn,hsn⟩:=eX s.sh.length;rw[hsn]at hsv;obtain⟨sb,hsb⟩:=eX s.blocks;have lu:=Hd hsv;have uE:=Hd hsb;have hst:=sV;have l3:=LW;have UA:=wR;have HC:=Hd hC;clear hC;clear h hp hsv;go_enter Tryz.func81,Tryz.ntmps81;go_wp2_with (first
  |(go_at_call 127;refine(Bu.o _).mono ?_;rintro e w5 ⟨vN,vD,rfl,sW,hD5,f5⟩;obtain⟨na,nc,uV⟩:=ah sW;obtain⟨da,dc,uW⟩:=ah hD5;subst uV;subst uW;have dJ:Hid (aG B (w5.alloc (.cells #[.i f,.i t,.i m,.i (nb:Int),.slice na ln nc,.slice da ln dc] 221)) b s∧Fr [] w (w5.alloc (.cells #[.i f,.i t,.i m,.i (nb:Int),.slice na ln nc,.slice da ln dc] 221))):=⟨HR.o.aA (f5.alloc _),f5.alloc _⟩;obtain⟨_,c1,c2,c3,cZ,c37⟩:=dJ.o.1.cells;rw[lu.o]at cZ;rw[uE.o]at c1;have hb6:(w5.alloc (.cells #[.i f,.i t,.i m,.i (nb:Int),.slice na ln nc,.slice da ln dc] 221)).heap[w5.heap.size]?=some (.cells #[.i f,.i t,.i m,.i (nb:Int),.slice na ln nc,.slice da ln dc] 221 (0,0)):=di w5 _;have x0:cE (w5.alloc (.cells #[.i f,.i t,.i m,.i (nb:Int),.slice na ln nc,.slice da ln dc] 221)) w5.heap.size 0 f:=(ce hb6 rfl);have x1:cE (w5.alloc (.cells #[.i f,.i t,.i m,.i (nb:Int),.slice na ln nc,.slice da ln dc] 221)) w5.heap.size 1 t:=(ce hb6 rfl);have x2:cE (w5.alloc (.cells #[.i f,.i t,.i m,.i (nb:Int),.slice na ln nc,.slice da ln dc] 221)) w5.heap.size 2 m:=(ce hb6 rfl);have x3:cE (w5.alloc (.cells #[.i f,.i t,.i m,.i (nb:Int),.slice na ln nc,.slice da ln dc] 221)) w5.heap.size 3 nb:=(ce hb6 rfl);have jq:Hid ((w5.alloc (.cells #[.i f,.i t,.i m,.i (nb:Int),.slice na ln nc,.slice da ln dc] 221)).heap[w5.heap.size]?=some (.cells #[.i f,.i t,.i m,.i (nb:Int),.slice na ln nc,.slice da ln dc] 221 (0,0))∧((w5.alloc (.cells #[.i f,.i t,.i m,.i (nb:Int),.slice na ln nc,.slice da ln dc] 221)).ownsRow w.heap.size 3 1 (.slice na ln nc) ln (l.map λx=>Value.i x.1)∧(w5.alloc (.cells #[.i f,.i t,.i m,.i (nb:Int),.slice na ln nc,.slice da ln dc] 221)).ownsRow w.heap.size 9 1 (.slice da ln dc) ln (l.map λx=>Value.t x.2.ba))):=⟨hb6,sW.alloc _,hD5.alloc _⟩;clear hb6 sW hD5 f5 c2 c3 c37))
 obtain⟨bx,hbx⟩:=eX w5.heap.size;obtain⟨W6,lI⟩:=eX (w5.alloc (.cells #[.i f,.i t,.i m,.i (nb:Int),.slice na ln nc,.slice da ln dc] 221));rw[hbx]at x0 x1 x2 x3 jq;rw[lI]at dJ c1 cZ x0 x1 x2 x3 jq;rw[lI,hbx];clear lI hbx;go_quiet (fail)
 obtain⟨W7,oZ⟩:=eX (W6.drewN nq);have dS:Hid (Fr [] W6 W7):=by rw[<-oZ];exact fR.drewN _
 rw[oZ];clear oZ c1 cZ x0 x1 x2 x3;have jD:Hid (W7.heap[bx]?=some (.cells #[.i f,.i t,.i m,.i (nb:Int),.slice na ln nc,.slice da ln dc] 221 (0,0))∧(W7.ownsRow w.heap.size 3 1 (.slice na ln nc) ln (l.map λx=>Value.i x.1)∧W7.ownsRow w.heap.size 9 1 (.slice da ln dc) ln (l.map λx=>Value.t x.2.ba))):=⟨by rw[dS.o.block bx (cY.1 jq.o.1).1 (by simp)];exact jq.o.1,bD jq.o.2.1 dS.o,bD jq.o.2.2 dS.o⟩;have kS:=Hj2 (dJ.o.1.aA dS.o) (dJ.o.2.trans dS.o (by simp));obtain⟨_,c1,c2,c3,cZ,c37⟩:=kS.o.1.cells;rw[lu.o]at cZ;rw[uE.o]at c1;have x0:cE W7 bx 0 f:=(ce jD.o.1 rfl);have x1:cE W7 bx 1 t:=(ce jD.o.1 rfl);have x2:cE W7 bx 2 m:=(ce jD.o.1 rfl);have x3:cE W7 bx 3 nb:=(ce jD.o.1 rfl);clear dJ jq dS c2 c3 c37;rcases HC.o with⟨hnb,rfl⟩|⟨hl,hml,hnb,⟨Dc,rfl⟩|⟨Dc,hr⟩⟩
 .have hb2:((nb:Int) != (sb:Int))=true:=by rw[<-uE.o];simpa using hnb
  clear hnb HC;go_wp2;go_ret2;exact⟨rfl,kS.o.2⟩
 .have hb2:((nb:Int) != (sb:Int))=false:=by rw[<-uE.o];simp[hnb]
  have Ja:Hid (∀W,aG B W b s->Rc 119 #[.p b,.i t] W (.bool true) λw'=>w'=W):=λW hW=>by have h8:=iB B b s t W hW (by omega) (by omega);rw[Dc]at h8;exact h8
  clear hnb Dc HC;go_wp2_with (first
   |(go_at_call 119;refine(Ja.o _ (by first|exact kS.o.1)).mono ?_;rintro e w' ⟨rfl,hw'⟩;have hw'':=hw'.symm;subst hw''))
  go_ret2;exact⟨rfl,kS.o.2⟩
 have hb2:((nb:Int) != (sb:Int))=false:=by rw[<-uE.o];simp[hnb]
 have Ja:Hid (∀W,aG B W b s->Rc 119 #[.p b,.i t] W (.bool false) λw'=>w'=W):=λW hW=>by have h8:=iB B b s t W hW (by omega) (by omega);rw[Dc]at h8;exact h8
 have jN:=Hd λW hW=>iF B b s W hW hl;obtain⟨nw,hnw⟩:=eX (aI s);rw[hnw]at jN hr;rcases hr with⟨hfn,rfl⟩|⟨hfn,h12,rfl⟩
 case' inl=>have hq:(f != nw)=true:=by simpa using hfn
 case' inr=>
  have hq:(f != nw)=false:=by simpa using hfn
  rw[hsn]at h12;have hq2:(12:Int)≤(sn:Int):=by omega
 all_goals
  clear hnb Dc hfn hnw HC;go_wp2_with (first
   |(go_at_call 119;refine(Ja.o _ (by first|exact kS.o.1)).mono ?_;rintro e w' ⟨rfl,hw'⟩;have hw'':=hw'.symm;subst hw''))
  have wS:Hid (∀W,Fr [] W7 W->Rc 92 #[.p b] W (.i nw) λw'=>Fr [] W7 w'∧w'.cell? (Ad bx 0)=some (.i f)∧w'.cell? (Ad b 36)=some (.slice ao sn cap)):=λW hW=>(jN.o W (kS.o.1.aA hW)).mono λe w'⟨h1,h2⟩=>⟨h1,hW.trans h2 (by simp),by rw[cell_of (by rw[(hW.trans h2 (by simp)).block bx (cY.1 jD.o.1).1 (by simp)];exact jD.o.1)];rfl,by rw[<-lu.o];exact(kS.o.1.aA (hW.trans h2 (by simp))).cells.2.2.2.2.1⟩;go_region_held3 (λw'=>w'.cell? (Ad bx 0)=some (.i f))
   (first|exact x0|go_keep)
   (first
     |(go_at_call 92;refine(wS.o _ (by first|exact fR|exact fR.drew|exact fR.drewN _)).mono ?_;rintro e w8 ⟨rfl,f8,x0,cZ⟩;have H8:=Hd f8;clear f8))
  all_goals
   go_wp2;go_ret2;exact⟨rfl,by first|exact kS.o.2.trans H8.o (by simp)|exact(kS.o.2.trans H8.o (by simp)).drew⟩
end Go.Proofs.YtjceeemlilnplaaGreatDoor
