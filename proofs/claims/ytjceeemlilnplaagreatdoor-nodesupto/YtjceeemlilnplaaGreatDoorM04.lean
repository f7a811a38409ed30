import Derived.Test.YtjceeemlilnplaaGreatDoorM03
import Derived.Deep.RegionHeld3
import Derived.Deep.AppendLies
import Derived.Deep.LoopGhost
import Derived.Deep.RegionLaw
import Derived.BigRegion
import Derived.Carry
import Derived.Laws.StructEq
import Derived.Deep.MidRow
set_option maxRecDepth 100000
set_option maxHeartbeats 12800000
set_option linter.all false
namespace Go.Proofs.YtjceeemlilnplaaGreatDoor
open Go.RowKit Go.Maps Go.MuLone
theorem nM{a b:Bool}(h:a=b):Ending.returned (.bool a)=.returned (.bool b):=by rw[h]
theorem fF(B b:Nat)(q:Int)(s:aK)(k:Int)(w:World)(h:aC B w b q s):
 Rc 52 #[.p b,.i k] w (.bool (decide (0≤k)&&decide (k<s.aL.length))) λw'=>w'=w:=by
 obtain⟨c0,c2,c3,c4,c5,c6,c7,c8,c9⟩:=h.cells;obtain⟨n,hn⟩:=eX s.aL.length;rw[hn]at c3⊢;clear h hn c4 c6 c9;by_cases h1:0≤k
 .rw[show decide (0≤k)=true by simpa using h1];go_enter Tryz.func52,Tryz.ntmps52;go_wp2;go_ret;exact⟨by simp,rfl⟩
 rw[show decide (0≤k)=false by simpa using h1];go_enter Tryz.func52,Tryz.ntmps52;go_wp2;go_ret;exact⟨rfl,rfl⟩
theorem aD{x:Int}(h:In64 x):IntKind.i64.wrap x=x:=by obtain⟨h1,h2⟩:=h;simp[IntKind.wrap,IntKind.bits,IntKind.signed];omega
theorem qN{x:Int}(h:In64 x):wrap64 x=x:=by obtain⟨h1,h2⟩:=h;unfold wrap64;omega
def gu(s:aK)(k:Int):Int:=s.id*1000000+k
theorem qO(B b:Nat)(q:Int)(s:aK)(k:Int)(w:World)(h:aC B w b q s)(h1:1≤s.id∧s.id≤999)(h2:0≤k∧k≤2000000):
 Rc 117 #[.p b,.i k] w (.i (gu s k)) λw'=>w'=w:=by
 obtain⟨c0,c2,c3,c4,c5,c6,c7,c8,c9⟩:=h.cells;unfold gu;obtain⟨n,hn⟩:=eX s.id;rw[hn]at c2 h1⊢;clear h hn c4 c6 c9 c3;have e1:IntKind.i64.wrap (n*1000000)=n*1000000:=aD ⟨by omega,by omega⟩;have e2:IntKind.i64.wrap (n*1000000+k)=n*1000000+k:=aD ⟨by omega,by omega⟩;go_enter Tryz.func117,Tryz.ntmps117;go_wp2;go_ret;exact⟨by first|rfl|(simp;done)|simp[e1,e2],rfl⟩
theorem zS{B:Nat}{w:World}{b:Nat}{q:Int}{s:aK}(h:aC B w b q s)(k:Nat)(hk:k<s.aL.length):
 w.cell? (Ad s.vb (k*5))=some (u8 s.aL[k].x.a)∧w.cell? (Ad s.vb (k*5+1))=some (u8 s.aL[k].x.b)∧w.cell? (Ad s.vb (k*5+2))=some (u8 s.aL[k].x.c)∧w.cell? (Ad s.vb (k*5+3))=some (u8 s.aL[k].x.d)∧w.cell? (Ad s.vb (k*5+4))=some (.i s.aL[k].n):=by
 have hg:=xJ s.aL k hk;refine⟨?_,?_,?_,?_,?_⟩<;>rw[cell_of h.aL,dq]
 .exact hg.1
 .exact hg.2.1
 .exact hg.2.2.1
 .exact hg.2.2.2.1
 exact hg.2.2.2.2
theorem aV(b:Nat)(s:aK)(w:World)(v:Value):Fr (foot b s) w (w.setCell (Ad b 0) v):=fR.setCell v (Or.inl (by simp[foot]))
theorem Ka(B b:Nat)(s:aK)(k:Nat)(w:World)(h:aC B w b 0 s)(hk:k<s.aL.length):
 Rc 28 #[.p b,.i k] w (.tuple #[s.aL[k].x.str,.i 0]) λw'=>aC B w' b 0 s∧Fr (foot b s) w w':=by
 have R1:=h.lock 1;obtain⟨w1,hw1⟩:=eX (w.setCell (Ad b 0) (.int .i32 1));rw[hw1]at R1;obtain⟨x,hx⟩:=eX s.aL[k].x;have hv:=zS R1 k hk;rw[hx]at hv⊢;have HC:=Hd λW=>fF B b 1 s k W;have HL:=lock_free Tryz.muLib (Ad b 0) w h.cells.1 (h.frozen 0);have hcv:=qQ hv.1 hv.2.1 hv.2.2.1 hv.2.2.2.1;have HF:=Hj2 h hw1;have HR1:=Hd R1;obtain⟨n,hn⟩:=eX s.aL.length;obtain⟨c0,c2,c3,c4,c5,c6,c7,c8,c9⟩:=R1.cells;have hb:(decide ((0:Int)≤(k:Int))&&decide ((k:Int)<(s.aL.length:Int)))=true:=by simp;omega
 clear h hw1 R1 c4 c6 c9 hx;rw[hn]at c3 hk;go_enter_defers Tryz.func28,Tryz.ntmps28;go_wp2_with (first
  |(go_at_call 50;refine HL.mono ?_;rintro e w' ⟨rfl,hw'⟩;rw[HF.o.2]at hw';subst hw')
  |(go_at_call 52;refine(HC.o _ HR1.o).mono ?_;rintro e w' ⟨rfl,rfl⟩;rw[hb]))
 refine leaves_cons (f:=51) (args:=#[.p b]) (by simp) (by simp[go_sem]) ?_;refine(eK Tryz.muLib (Ad b 0) .returning _ HR1.o.cells.1 (HR1.o.frozen 0)).mono ?_;rintro e u' w'' ⟨rfl,rfl,rfl⟩;exact⟨_,ft rfl _ _ _,rfl,HR1.o.lock 0,by rw[<-HF.o.2];exact(aV b s w _).setCell _ (Or.inl (by simp[foot]))⟩
theorem NA:∀(l:List Ct)(k:Nat)(x:B4)(n:Int),k<l.length->(((((mO l).set (k*5) (u8 x.a)).set (k*5+1) (u8 x.b)).set (k*5+2) (u8 x.c)).set (k*5+3) (u8 x.d)).set (k*5+4) (.i n)=mO (l.set k ⟨x,n⟩)
 |[],k,_,_,h=>by simp at h
 |y::r,0,x,_,_=>by simp[mO,Ct.cells]
 |y::r,k+1,x,n,h=>by
  have ih:=NA r k x n (by simpa using h);have e:(k+1)*5=k*5+5:=by omega
  simp only[mO,gC,List.set_cons_succ,Ct.cells,fL,fe,e]at ih⊢;simpa[List.set_cons_succ]using ih
def aK.write(s:aK)(k:Nat)(x:B4):aK:={s with aL:=s.aL.set k ⟨x,s.came⟩}
theorem aC.write{B:Nat}{w:World}{b:Nat}{q:Int}{s:aK}(h:aC B w b q s)(k:Nat)(x:B4)(hk:k<s.aL.length):aC B ((w.setCells s.vb (k*5) x.cells).setCell (Ad s.vb (k*5+4)) (.i s.came)) b q (s.write k x):=by
 obtain⟨a1,a2,a3,a4,a5,a6⟩:=h.apart;have ho:∀j,j≠s.vb->((w.setCells s.vb (k*5) x.cells).setCell (Ad s.vb (k*5+4)) (.i s.came)).heap[j]?=w.heap[j]?:=λj hj=>by simp only[B4.cells,World.setCells];rw[de _ _ _ _ hj,de _ _ _ _ hj,de _ _ _ _ hj,de _ _ _ _ hj,de _ _ _ _ hj]
 refine⟨?_,?_,?_,?_,?_,?_,h.hb,h.hvb,h.hmb⟩
 .rw[ho b (Ne.symm a1),h.blk];simp[aK.blk,aK.write]
 .show((w.setCells s.vb (k*5) x.cells).setCell (Ad s.vb (k*5+4)) (.i s.came)).heap[s.vb]?=some (.cells (mO (s.aL.set k ⟨x,s.came⟩)).toArray 155 (0,0));have h1:=dy w s.vb (k*5) _ _ (u8 x.a) h.aL;have h2:=dy _ s.vb (k*5+1) _ _ (u8 x.b) h1;have h3:=dy _ s.vb (k*5+1+1) _ _ (u8 x.c) h2;have h4:=dy _ s.vb (k*5+1+1+1) _ _ (u8 x.d) h3;have h5:=dy _ s.vb (k*5+4) _ _ (.i s.came) h4;simp only[B4.cells,World.setCells];rw[h5,<-NA s.aL k x s.came hk];simp
 .exact aj h.ss (λj hj=>ho j (a4 j hj).2.1)
 .exact h.th.of_block (ho s.mb a3)
 .exact aj h.ms (λj hj=>ho j (a5 j hj).2.1)
 exact aj h.lg (λj hj=>ho j (a6 j hj).2.1)
theorem xK{F:List Nat}{w:World}{vb:Nat}(hv:vb∈F):∀(l:List Value)(o:Nat)(w1:World),Fr F w w1->Fr F w (w1.setCells vb o l)
 |[],_,_,h=>h
 |v::r,o,_,h=>xK hv r (o+1) _ (h.setCell v (Or.inl hv))
def uy(k:Nat)(x:B4):cC:=⟨#[eH k]⟩++⟨#[x.a,x.b,x.c,x.d]⟩
theorem Mx{w:World}{vb:Nat}{y:UInt8}(h0:w.cell? (Ad vb 0)=some (u8 y)):(convert 134 9 (.slice (some (Ad vb 0)) 1 1)).run Tryz.prog w=.ok (.t ⟨#[y]⟩) w:=by
 have:=run_convert_bytes_back (P:=Tryz.prog) w 134 9 5 (Ad vb 0) 1 [y] Tryz.underlying134 Tryz.underlying5 Tryz.underlying9 (by
  intro j hj;have hj':j<1:=hj;have:j=0:=by omega
  subst this;exact h0)
 exact this
theorem FX(B b:Nat)(s:aK)(k:Nat)(x:B4)(w:World)(h:aC B w b 0 s)(hk:k<s.aL.length)(hl:s.log.length≤140000000000000):
 Rc 63 #[.p b,.i k,x.str] w (.i 0) λw'=>∃lv,aC B w' b 0 ((s.write k x).noted 87 (uy k x) lv)∧Fr (foot b s) w w'∧(∀j,lv.ownBlock=some j->s.lv.ownBlock=some j∨w.heap.size≤j):=by
 have R1:=h.lock 1;obtain⟨w1,hw1⟩:=eX (w.setCell (Ad b 0) (.int .i32 1));rw[hw1]at R1;have hv:=zS R1 k hk;have HC:=Hd λW=>fF B b 1 s k W;have HL:=lock_free Tryz.muLib (Ad b 0) w h.cells.1 (h.frozen 0);obtain⟨w2,hw2⟩:=eX (w1.setCells s.vb (k*5) x.cells);have hcp:∀ty,(Builtin.copy_ #[134,9] ty #[.slice (some (Ad s.vb (k*5))) 4 4,x.str]).run Tryz.prog w1=.ok (goInt 4) w2:=λty=>by
  have e:=run_copy_string (P:=Tryz.prog) w1 134 9 ty 5 s.vb (k*5) 4 4 ⟨#[x.a,x.b,x.c,x.d]⟩ Tryz.underlying134 (λw=>Tryz.sizeOf5 w) (by show 4≤4;omega) (by
   intro j hj;have hj':j<4:=hj;rcases(by omega:j=0∨j=1∨j=2∨j=3)with rfl|rfl|rfl|rfl
   .rw[ix,hv.1];rfl
   .rw[hv.2.1];rfl
   .rw[hv.2.2.1];rfl
   rw[hv.2.2.2.1];rfl) (λj _=>ay R1.aL _)
  rw[<-hw2];exact e
 have R3:=R1.write k x hk;rw[hw2]at R3;obtain⟨a1,a2,a3,a4,a5,a6⟩:=R1.apart;have hb2:w2.heap[b]?=w1.heap[b]?:=by rw[<-hw2];simp only[B4.cells,World.setCells];rw[de _ _ _ _ (Ne.symm a1),de _ _ _ _ (Ne.symm a1),de _ _ _ _ (Ne.symm a1),de _ _ _ _ (Ne.symm a1)]
 have hvf:∃cs,w2.heap[s.vb]?=some (.cells cs 155 (0,0)):=by rw[<-hw2];have h1:=dy w1 s.vb (k*5) _ _ (u8 x.a) R1.aL;have h2:=dy _ s.vb (k*5+1) _ _ (u8 x.b) h1;have h3:=dy _ s.vb (k*5+1+1) _ _ (u8 x.c) h2;have h4:=dy _ s.vb (k*5+1+1+1) _ _ (u8 x.d) h3;exact⟨_,h4⟩
 obtain⟨cs,hvf⟩:=hvf;have f24:w2.frozen? (Ad s.vb (k*5+4))=false:=ay hvf _;have c24:w2.cell? (Ad s.vb (k*5+4))=some (.i s.aL[k].n):=by
  rw[<-hw2];simp only[B4.cells,World.setCells];rw[hJ,hJ,hJ,hJ]
  .exact hv.2.2.2.2
  all_goals simp
 obtain⟨c0,c2,c3,c4,c5,c6,c7,c8,c9⟩:=R1.cells;have c23:=(du hb2).trans c3;have c27:=(du hb2).trans c7;obtain⟨w3,hw3⟩:=eX (w2.setCell (Ad s.vb (k*5+4)) (.i s.came));rw[hw3]at R3;have F3:Fr (foot b s) w w3:=by rw[<-hw3,<-hw2,<-hw1];exact(xK (by simp[foot]) _ _ _ (aV b s w _)).setCell _ (Or.inl (by simp[foot]))
 obtain⟨w4,hw4⟩:=eX w3.drew;have hcv:(convert 134 9 (.slice (some (Ad w4.heap.size 0)) 1 1)).run Tryz.prog (w4.alloc (.cells #[.u ((k:Int)%256)] 5))=.ok (.t ⟨#[eH k]⟩) (w4.alloc (.cells #[.u ((k:Int)%256)] 5)):=by rw[dX];exact Mx (by simp[u8])
 have R5:=R3.aA (((Fr.refl [] w3).drew).alloc (.cells #[.u ((k:Int)%256)] 5));have F5:=(F3.drew).alloc (.cells #[.u ((k:Int)%256)] 5);rw[hw4]at R5 F5;have HF:=Hj3 hw1 hw3 hw4;have HR1:=Hd R1;have mZ:=Hj2 R5 F5;have oF:=Hd λW hW=>gD B b 1 (s.write k x) 87 (uy k x) W hW (by show 5≤1000;omega) hl;obtain⟨n,hn⟩:=eX s.aL.length;have hb:(decide ((0:Int)≤(k:Int))&&decide ((k:Int)<(s.aL.length:Int)))=true:=by simp;omega
 clear h hw1 R1 c4 c6 c9 R3 F3 R5 F5 hw4 hw2 hvf hb2 hv a1 a2 a3 a4 a5 a6;rw[hn]at c3 hk c23;have hx:x.str=.t ⟨#[x.a,x.b,x.c,x.d]⟩:=rfl;have hwt:uy k x=⟨#[eH k]⟩++⟨#[x.a,x.b,x.c,x.d]⟩:=rfl;rw[hx]at hcp⊢;go_enter_defers Tryz.func63,Tryz.ntmps63;go_wp2_with (first
  |(go_at_call 50;refine HL.mono ?_;rintro e w' ⟨rfl,hw'⟩;rw[HF.o.1]at hw';subst hw')
  |(go_at_call 52;refine(HC.o _ HR1.o).mono ?_;rintro e w' ⟨rfl,rfl⟩;rw[hb]))
 refine wp_region_noPanic ?_;go_region;refine NoPanic.normal ?_;rw[HF.o.2.2];clear c0 c2 c3 c5 c7 c8 c23 c27 c24 f24 hcp HL HC;go_wp2_with (go_at_call 113;refine(oF.o _ mZ.o.1).mono ?_;rintro e w6 ⟨rfl,lv,r6,f6,a6⟩;have dJ:Hid (aC B w6 b 1 ((s.write k x).noted 87 (uy k x) lv)∧Fr (foot b s) w w6∧(∀j,lv.ownBlock=some j->s.lv.ownBlock=some j∨w.heap.size≤j)):=⟨r6,mZ.o.2.trans f6 (λj hj=>Or.inl hj),λj hj=>(a6 j hj).imp_right (λh=>eJ mZ.o.2.size h)⟩;clear r6 f6 a6);refine leaves_cons (f:=51) (args:=#[.p b]) (by simp) (by simp[go_sem]) ?_;refine(eK Tryz.muLib (Ad b 0) .returning _ dJ.o.1.cells.1 (dJ.o.1.frozen 0)).mono ?_;rintro e u' w'' ⟨rfl,rfl,rfl⟩;exact⟨_,results_tmp rfl _ _ _,rfl,lv,dJ.o.1.lock 0,dJ.o.2.1.setCell _ (Or.inl (by simp[foot])),dJ.o.2.2⟩
theorem Du(B b:Nat)(s:aK)(k:Int)(t:cC)(w:World)(h:aC B w b 0 s)(hk:(decide (0≤k)&&decide (k<s.aL.length))=false∨((t.size:Int) != 4)=true):
 Rc 63 #[.p b,.i k,.t t] w (.i 1) λw'=>aC B w' b 0 s∧Fr (foot b s) w w':=by
 have R1:=h.lock 1;obtain⟨w1,hw1⟩:=eX (w.setCell (Ad b 0) (.int .i32 1));rw[hw1]at R1;have HC:=Hd λW=>fF B b 1 s k W;have HL:=lock_free Tryz.muLib (Ad b 0) w h.cells.1 (h.frozen 0);have HF:=Hj2 h hw1;have HR1:=Hd R1;clear h hw1 R1;cases hb:(decide (0≤k)&&decide (k<(s.aL.length:Int)))
 .go_enter_defers Tryz.func63,Tryz.ntmps63;go_wp2_with (first
   |(go_at_call 50;refine HL.mono ?_;rintro e w' ⟨rfl,hw'⟩;rw[HF.o.2]at hw';subst hw')
   |(go_at_call 52;refine(HC.o _ HR1.o).mono ?_;rintro e w' ⟨rfl,rfl⟩;rw[hb]))
  refine leaves_cons (f:=51) (args:=#[.p b]) (by simp) (by simp[go_sem]) ?_;refine(eK Tryz.muLib (Ad b 0) .returning _ HR1.o.cells.1 (HR1.o.frozen 0)).mono ?_;rintro e u' w'' ⟨rfl,rfl,rfl⟩;exact⟨_,results_tmp rfl _ _ _,rfl,HR1.o.lock 0,by rw[<-HF.o.2];exact(aV b s w _).setCell _ (Or.inl (by simp[foot]))⟩
 have hk2:((t.size:Int) != 4)=true:=by
  rcases hk with h|h
  .rw[hb]at h;cases h
  exact h
 clear hk;go_enter_defers Tryz.func63,Tryz.ntmps63;go_wp2_with (first
  |(go_at_call 50;refine HL.mono ?_;rintro e w' ⟨rfl,hw'⟩;rw[HF.o.2]at hw';subst hw')
  |(go_at_call 52;refine(HC.o _ HR1.o).mono ?_;rintro e w' ⟨rfl,rfl⟩;rw[hb]))
 refine leaves_cons (f:=51) (args:=#[.p b]) (by simp) (by simp[go_sem]) ?_;refine(eK Tryz.muLib (Ad b 0) .returning _ HR1.o.cells.1 (HR1.o.frozen 0)).mono ?_;rintro e u' w'' ⟨rfl,rfl,rfl⟩;exact⟨_,results_tmp rfl _ _ _,rfl,HR1.o.lock 0,by rw[<-HF.o.2];exact(aV b s w _).setCell _ (Or.inl (by simp[foot]))⟩
def fi{α:Type}(p:α->Bool):Nat->List α->Int
 |_,[]=>-1
 |i,x::r=>if p x then(i:Int)else fi p (i+1) r
theorem gB{α:Type}{p:α->Bool}:∀(l:List α)(i:Nat),(∀x∈l,p x=false)->fi p i l=-1
 |[],_,_=>rfl
 |x::r,i,h=>by have hx:p x=false:=h x (by simp);rw[fi,hx];exact gB r (i+1) (λy hy=>h y (by simp[hy]))
theorem dx{α:Type}{p:α->Bool}:∀(l:List α)(i:Nat),(∃x∈l,p x=true)->∃j,∃h:j<l.length,fi p i l=((i+j:Nat):Int)∧p l[j]=true
 |[],_,h=>by simp at h
 |x::r,i,h=>by
  cases hx:p x
  .obtain⟨j,hj,e,hp⟩:=dx r (i+1) (by obtain⟨y,hy,hp⟩:=h;rcases ek.1 hy with rfl|hy;rw[hx]at hp;cases hp;exact⟨y,hy,hp⟩);refine⟨j+1,by simpa using hj,?_,by simpa using hp⟩;rw[fi,hx];simp only[Bool.false_eq_true,if_false];rw[e];congr 1;omega
  exact⟨0,by simp,by rw[fi,hx];simp,by simpa using hx⟩
theorem Ry(x:Sn)(g:Int)(gb:Nat)(w:World)(hg:w.cell? (Ad gb 0)=some (.i g)):
 Rc 108 #[.agg #[.i x.au,.i x.time,.i x.holds,.i x.came],.p gb] w (.bool (x.au==g)) λw'=>Fr [] w w':=by
 have lb:=dm _ _ hg;go_enter Tryz.func108,Tryz.ntmps108;go_wp2;go_ret;exact⟨rfl,fR.alloc _⟩
theorem Rz(x:Int×Int)(g:Int)(gb:Nat)(w:World)(hg:w.cell? (Ad gb 0)=some (.i g)):
 Rc 154 #[.agg #[.i x.1,.i x.2],.p gb] w (.bool (x.1==g)) λw'=>Fr [] w w':=by
 have lb:=dm _ _ hg;go_enter Tryz.func154,Tryz.ntmps154;go_wp2;go_ret;exact⟨rfl,fR.alloc _⟩
theorem dz{a b:Int}(h:a=b):Ending.returned (.i a)=.returned (.i b):=by rw[h]
theorem aB{w:World}{base:Nat}{e:TypeId}{size:Nat}{a:Option Addr}{c:Nat}{n:Nat}{xs:List Value}(h:w.ownsRow base e size (.slice a n c) n xs)(h0:0<n):∃g,a=some (Ad g 0)∧n≤c∧∀j,j<n*size->w.cell? (Ad g j)=xs[j]?:=by
 rcases h.2 with⟨h1,h2⟩|⟨g,c,cur,h1,hb,hg,hc,hm,hs,ht⟩
 .omega
 simp at h1;obtain⟨rfl,rfl⟩:=h1;refine⟨g,rfl,hc,λj hj=>?_⟩;rw[cell_of hg,<-ht,eQ hj,<-fw]
theorem Kl(B:Nat)(sv:Value)(l:List Sn)(g:Int)(gb:Nat)(w:World)(ho:w.ownsRow B 138 4 sv l.length (iH l))(hg:w.cell? (Ad gb 0)=some (.i g))(hl:l.length≤1000000):
 Rc 107 #[sv,.func (.func 108) #[] #[.p gb]] w (.i (fi (λx:Sn=>x.au==g) 0 l)) λw'=>Fr [] w w':=by
 obtain⟨ao,cap,rfl⟩:=ah ho;obtain⟨r,hr⟩:=eX (fi (λx:Sn=>x.au==g) 0 l);rw[hr];have HR:=Hd hr;have HO:=Hj2 ho hg;clear hr ho hg;go_enter Tryz.func107,Tryz.ntmps107;go_wp2;go_loopw [8] (λi wr=>∃k:Nat,k≤l.length∧i=.i k∧Hid (fi (λx:Sn=>x.au==g) k (l.drop k)=r)∧Hid (Fr [] w wr)) (λi _=>l.length-(intOf i).toNat)
 case atStart=>exact⟨0,dC _,rfl,HR,fR⟩
 obtain⟨k,hk,rfl,HK,HW⟩:=hrel;obtain⟨W3,hW3⟩:=eY wr;subst hW3;clear HR;by_cases hlt:k<l.length
 .have H:=HK.o;rw[eN hlt,fi]at H;have ho':=aj (w':=W3) HO.o.1 (λj hj=>HW.o.block j (HO.o.1.lt j hj).2 (by simp));obtain⟨gg,rfl,hcap,hc⟩:=aB ho' (by omega);have hs:=iW l k hlt;obtain⟨x,hx⟩:=eX l[k];rw[hx]at hs H;have d0:W3.cell? (Ad gg (k*4))=some (.i x.au):=by rw[hc _ (by omega)];exact hs.1
  have d1:W3.cell? (Ad gg (k*4+1))=some (.i x.time):=by rw[hc _ (by omega)];exact hs.2.1
  have d2:W3.cell? (Ad gg (k*4+2))=some (.i x.holds):=by rw[hc _ (by omega)];exact hs.2.2.1
  have d3:W3.cell? (Ad gg (k*4+3))=some (.i x.came):=by rw[hc _ (by omega)];exact hs.2.2.2
  have hg':=HW.o.gb.cell HO.o.2 (by simp);have HC:=Ry x g gb W3 hg';have hltz:(k:Int)<(l.length:Int):=by omega
  clear HK hc hs ho' hx hg';cases hp:(x.au==g)
  .rw[hp]at HC;have HH:Hid (fi (λx:Sn=>x.au==g) (k+1) (l.drop (k+1))=r):=by show _=_;simpa[hp]using H
   clear H;go_wp2_with (go_at_call 108;refine HC.mono ?_;rintro e w' ⟨rfl,hfr⟩;have Af:=Hd (HW.o.trans hfr (by simp));clear HW hfr);go_roundw
   case rel=>exact⟨k+1,by omega,by go_num,HH,Af⟩
   simp[intOf];omega
  rw[hp]at HC;have HH:Hid ((k:Int)=r):=by show _=_;simpa[hp]using H
  clear H;go_wp2_with (go_at_call 108;refine HC.mono ?_;rintro e w' ⟨rfl,hfr⟩;have Af:=Hd (HW.o.trans hfr (by simp));clear HW hfr);go_ret;exact⟨dz HH.o,Af.o⟩
 have hkk:k=l.length:=by omega
 have HH:Hid ((-1:Int)=r):=by have:=HK.o;rw[hkk]at this;show _=_;simpa[fi]using this
 clear HK;subst hkk;go_wp2;go_ret;exact⟨dz HH.o,HW.o⟩
theorem Km(B:Nat)(sv:Value)(l:List (Int×Int))(g:Int)(gb:Nat)(w:World)(ho:w.ownsRow B 150 2 sv l.length (cB l))(hg:w.cell? (Ad gb 0)=some (.i g))(hl:l.length≤1000000):
 Rc 153 #[sv,.func (.func 154) #[] #[.p gb]] w (.i (fi (λx:Int×Int=>x.1==g) 0 l)) λw'=>Fr [] w w':=by
 obtain⟨ao,cap,rfl⟩:=ah ho;obtain⟨r,hr⟩:=eX (fi (λx:Int×Int=>x.1==g) 0 l);rw[hr];have HR:=Hd hr;have HO:=Hj2 ho hg;clear hr ho hg;go_enter Tryz.func153,Tryz.ntmps153;go_wp2;go_loopw [8] (λi wr=>∃k:Nat,k≤l.length∧i=.i k∧Hid (fi (λx:Int×Int=>x.1==g) k (l.drop k)=r)∧Hid (Fr [] w wr)) (λi _=>l.length-(intOf i).toNat)
 case atStart=>exact⟨0,dC _,rfl,HR,fR⟩
 obtain⟨k,hk,rfl,HK,HW⟩:=hrel;obtain⟨W3,hW3⟩:=eY wr;subst hW3;clear HR;by_cases hlt:k<l.length
 .have H:=HK.o;rw[eN hlt,fi]at H;have ho':=aj (w':=W3) HO.o.1 (λj hj=>HW.o.block j (HO.o.1.lt j hj).2 (by simp));obtain⟨gg,rfl,hcap,hc⟩:=aB ho' (by omega);have hs:=jE l k hlt;obtain⟨x,hx⟩:=eX l[k];rw[hx]at hs H;have d0:W3.cell? (Ad gg (k*2))=some (.i x.1):=by rw[hc _ (by omega)];exact hs.1
  have d1:W3.cell? (Ad gg (k*2+1))=some (.i x.2):=by rw[hc _ (by omega)];exact hs.2
  have hg':=HW.o.gb.cell HO.o.2 (by simp);have HC:=Rz x g gb W3 hg';have hltz:(k:Int)<(l.length:Int):=by omega
  clear HK hc hs ho' hx hg';cases hp:(x.1==g)
  .rw[hp]at HC;have HH:Hid (fi (λx:Int×Int=>x.1==g) (k+1) (l.drop (k+1))=r):=by show _=_;simpa[hp]using H
   clear H;go_wp2_with (go_at_call 154;refine HC.mono ?_;rintro e w' ⟨rfl,hfr⟩;have Af:=Hd (HW.o.trans hfr (by simp));clear HW hfr);go_roundw
   case rel=>exact⟨k+1,by omega,by go_num,HH,Af⟩
   simp[intOf];omega
  rw[hp]at HC;have HH:Hid ((k:Int)=r):=by show _=_;simpa[hp]using H
  clear H;go_wp2_with (go_at_call 154;refine HC.mono ?_;rintro e w' ⟨rfl,hfr⟩;have Af:=Hd (HW.o.trans hfr (by simp));clear HW hfr);go_ret;exact⟨dz HH.o,Af.o⟩
 have hkk:k=l.length:=by omega
 have HH:Hid ((-1:Int)=r):=by have:=HK.o;rw[hkk]at this;show _=_;simpa[fi]using this
 clear HK;subst hkk;go_wp2;go_ret;exact⟨dz HH.o,HW.o⟩
theorem aF(B b:Nat)(q:Int)(s:aK)(g:Int)(w:World)(h:aC B w b q s)(hl:s.ss.length≤1000000):
 Rc 53 #[.p b,.i g] w (.i (fi (λx:Sn=>x.au==g) 0 s.ss)) λw'=>Fr [] w w':=by
 obtain⟨c0,c2,c3,c4,c5,c6,c7,c8,c9⟩:=h.cells;have lb:=dm _ _ c4;have HC:=Kl B s.sv s.ss g w.heap.size (w.alloc (.cells #[.i g] 3)) (h.ss.alloc _) (by simp) hl;obtain⟨ao,cap,hsv⟩:=ah h.ss;have HH:=Hd h;rw[hsv]at c4 HC;clear c6 h hsv;go_enter Tryz.func53,Tryz.ntmps53;go_wp2_with (go_at_call 107;refine HC.mono ?_;rintro e w' ⟨rfl,hfr⟩);go_ret;exact⟨rfl,(fR.alloc _).trans hfr (by simp)⟩
theorem bF(B b:Nat)(q:Int)(s:aK)(g:Int)(w:World)(h:aC B w b q s)(hl:s.ms.length≤1000000):
 Rc 109 #[.p b,.i g] w (.i (fi (λx:Int×Int=>x.1==g) 0 s.ms)) λw'=>Fr [] w w':=by
 obtain⟨c0,c2,c3,c4,c5,c6,c7,c8,c9⟩:=h.cells;have lb:=dm _ _ c6;have HC:=Km B s.mv s.ms g w.heap.size (w.alloc (.cells #[.i g] 3)) (h.ms.alloc _) (by simp) hl;obtain⟨ao,cap,hsv⟩:=ah h.ms;have HH:=Hd h;rw[hsv]at c6 HC;clear c4 h hsv;go_enter Tryz.func109,Tryz.ntmps109;go_wp2_with (go_at_call 153;refine HC.mono ?_;rintro e w' ⟨rfl,hfr⟩);go_ret;exact⟨rfl,(fR.alloc _).trans hfr (by simp)⟩
def Hs(s:aK)(g:Int):Bool:=s.ss.any (λx=>x.au==g)||s.ms.any (λx=>x.1==g)
structure Fx(s:aK)(n:Int):Prop where
 lo:s.taken<n
 hi:n≤s.taken+25
 no:∀k,s.taken<k->k<n->Hs s (gu s k)=true
 yes:Hs s (gu s n)=false
theorem Fx.free{s:aK}{n:Int}(h:Fx s n):(∀x∈s.ss,(x.au==gu s n)=false)∧∀x∈s.ms,(x.1==gu s n)=false:=by have:=h.yes;unfold Hs at this;rw[Bool.or_eq_false_iff,gR,gR]at this;exact⟨λx hx=>by simpa using this.1 x hx,λx hx=>by simpa using this.2 x hx⟩
theorem xB(B b:Nat)(q:Int)(s:aK)(n:Int)(w:World)(h:aC B w b q s)(h1:1≤s.id∧s.id≤999)(h2:0≤s.taken∧s.taken≤1000000)(hf:Fx s n)(l1:s.ss.length≤1000000)(l2:s.ms.length≤1000000):
 Rc 116 #[.p b] w (.i n) λw'=>Fr [] w w':=by
 have HH:=Hj2 h hf;obtain⟨c0,c2,c3,c4,c5,c6,c7,c8,c9⟩:=h.cells;have hlo:=hf.lo;have hhi:=hf.hi;have HG:Hid (∀k W,s.taken<k->k≤n->aC B W b q s->Rc 117 #[.p b,.i k] W (.i (gu s k)) λw'=>w'=W):=λk W _ _ hW=>qO B b q s k W hW h1 ⟨by omega,by omega⟩;have HS:=Hd λg W hW=>aF B b q s g W hW l1;have HM:=Hd λg W hW=>bF B b q s g W hW l2;obtain⟨tk,htk⟩:=eX s.taken;rw[htk]at c8 hlo hhi h2 HG;have hw:IntKind.i64.wrap (tk+1)=tk+1:=aD ⟨by omega,by omega⟩;have Mt:=Hd htk;clear h hf c4 c6 c9 htk;go_enter Tryz.func116,Tryz.ntmps116;go_wp2;go_loopw [3] (λi wr=>∃k:Int,(tk<k∧k≤n)∧i=.i k∧Hid (Fr [] w wr)) (λi _=>(n-intOf i).toNat)
 case atStart=>exact⟨tk+1,⟨by omega,by omega⟩,rfl,fR⟩
 obtain⟨k,⟨hk1,hk2⟩,rfl,HF⟩:=hrel;obtain⟨W3,hW3⟩:=eY wr;subst hW3;have J6:=Hd (HH.o.1.aA HF.o);have Vm:=Hd λW hW=>HG.o k W hk1 hk2 hW;have jQ:=Hd (HS.o (gu s k));have Rh:=Hd (HM.o (gu s k));have hcs:(∃j:Nat,fi (λx:Sn=>x.au==gu s k) 0 s.ss=(j:Int))∨(fi (λx:Sn=>x.au==gu s k) 0 s.ss=-1∧((∃j:Nat,fi (λx:Int×Int=>x.1==gu s k) 0 s.ms=(j:Int))∨fi (λx:Int×Int=>x.1==gu s k) 0 s.ms=-1)):=by
  by_cases e1:∃x∈s.ss,(x.au==gu s k)=true
  .obtain⟨j,_,e,_⟩:=dx (p:=λx:Sn=>x.au==gu s k) s.ss 0 e1;exact Or.inl ⟨j,by simpa using e⟩
  refine Or.inr ⟨gB _ _ (λx hx=>by cases hp:(x.au==gu s k);rfl;exact absurd ⟨x,hx,hp⟩ e1),?_⟩;by_cases e2:∃x∈s.ms,(x.1==gu s k)=true
  .obtain⟨j,_,e,_⟩:=dx (p:=λx:Int×Int=>x.1==gu s k) s.ms 0 e2;exact Or.inl ⟨j,by simpa using e⟩
  exact Or.inr (gB _ _ (λx hx=>by cases hp:(x.1==gu s k);rfl;exact absurd ⟨x,hx,hp⟩ e2))
 have Mv:Hid ((∃j:Nat,fi (λx:Sn=>x.au==gu s k) 0 s.ss=(j:Int))∨(∃j:Nat,fi (λx:Int×Int=>x.1==gu s k) 0 s.ms=(j:Int))->k<n):=λe=>by
  rcases Int.lt_or_eq_of_le hk2 with e2|e2
  .exact e2
  exfalso;subst e2;have h1:=HH.o.2.free;rcases e with⟨j,e⟩|⟨j,e⟩
  .rw[gB _ _ h1.1]at e;omega
  rw[gB _ _ h1.2]at e;omega
 have xC:Hid (fi (λx:Sn=>x.au==gu s k) 0 s.ss=-1->fi (λx:Int×Int=>x.1==gu s k) 0 s.ms=-1->k=n):=λe1 e2=>by
  rcases Int.lt_or_eq_of_le hk2 with e3|e3
  .exfalso;have h1:=HH.o.2.no k (by rw[Mt.o];exact hk1) e3;unfold Hs at h1;rw[kz,fW,fW]at h1;rcases h1 with h1|h1
   .obtain⟨j,_,e,_⟩:=dx (p:=λx:Sn=>x.au==gu s k) s.ss 0 h1;rw[e1]at e;omega
   obtain⟨j,_,e,_⟩:=dx (p:=λx:Int×Int=>x.1==gu s k) s.ms 0 h1;rw[e2]at e;omega
  exact e3
 obtain⟨g,hg⟩:=eX (gu s k);rw[hg]at Vm jQ Rh hcs Mv xC;clear hg;have hwk:IntKind.i64.wrap (k+1)=k+1:=aD ⟨by omega,by omega⟩;rcases hcs with⟨j,ej⟩|⟨e1,⟨j,ej⟩|e2⟩
 .have hlt:=Mv.o (Or.inl ⟨j,ej⟩);rw[ej]at jQ;clear ej Mv xC;go_wp2_with (first
   |(go_at_call 117;refine(Vm.o _ J6.o).mono ?_;rintro e w' ⟨rfl,hw'⟩;subst w')
   |(go_at_call 53;refine(jQ.o _ J6.o).mono ?_;rintro e w2 ⟨rfl,hfr⟩;have J7:=Hj2 (J6.o.aA hfr) (HF.o.trans hfr (by simp));clear hfr))
  go_roundw
  case rel=>exact⟨k+1,⟨by omega,by omega⟩,rfl,J7.o.2⟩
  simp[intOf];omega
 .have hlt:=Mv.o (Or.inr ⟨j,ej⟩);rw[e1]at jQ;rw[ej]at Rh;clear ej Mv xC e1;go_wp2_with (first
   |(go_at_call 109;refine(Rh.o _ J7.o.1).mono ?_;rintro e w3 ⟨rfl,hfr⟩;have V7:=Hd (J7.o.2.trans hfr (by simp));clear hfr)
   |(go_at_call 117;refine(Vm.o _ (by first|exact J7.o.1|exact J6.o)).mono ?_;rintro e w' ⟨rfl,hw'⟩;subst w')
   |(go_at_call 53;refine(jQ.o _ J6.o).mono ?_;rintro e w2 ⟨rfl,hfr⟩;have J7:=Hj2 (J6.o.aA hfr) (HF.o.trans hfr (by simp));clear hfr))
  go_roundw
  case rel=>exact⟨k+1,⟨by omega,by omega⟩,rfl,V7.o⟩
  simp[intOf];omega
 have hkn:=xC.o e1 e2;have HKN:Hid (k=n):=hkn;clear hkn;rw[e1]at jQ;rw[e2]at Rh;clear e1 e2 Mv xC;go_wp2_with (first
  |(go_at_call 109;refine(Rh.o _ J7.o.1).mono ?_;rintro e w3 ⟨rfl,hfr⟩;have V7:=Hd (J7.o.2.trans hfr (by simp));clear hfr)
  |(go_at_call 117;refine(Vm.o _ (by first|exact J7.o.1|exact J6.o)).mono ?_;rintro e w' ⟨rfl,hw'⟩;subst w')
  |(go_at_call 53;refine(jQ.o _ J6.o).mono ?_;rintro e w2 ⟨rfl,hfr⟩;have J7:=Hj2 (J6.o.aA hfr) (HF.o.trans hfr (by simp));clear hfr))
 go_ret;have hkn:=HKN.o;subst hkn;exact⟨rfl,V7.o⟩
def aK.add(s:aK)(g t:Int)(sv:Value):aK:=
 {s with
  came:=s.came+1
  ss:=s.ss++[⟨g,t,0,s.came+1⟩]
  th:=λg' i=>if g'=g∧0≤i∧i<s.aL.length then s.aL.getD i.toNat Ct.zero else s.th g' i
  cnt:=s.cnt+s.aL.length
  sv:=sv}
theorem BO:(Tryz.prog.info? 138).map (λi=>(i.zero,i.size,i.bytes))=some (some (.agg #[.i 0,.i 0,.i 0,.i 0]),4,32):=by kernel_rfl
theorem aC.appended{B:Nat}{w w':World}{b:Nat}{q:Int}{s:aK}(h:aC B w b q s){x:Sn}{sv:Value}(ho:w'.ownsRow B 138 4 sv (s.ss.length+1) (iH s.ss++x.cells))(hg:w.grownBy w' s.sv.ownBlock):
 aC B (w'.setCell (Ad b 4) sv) b q {s with ss:=s.ss++[x],sv:=sv}:=by
 obtain⟨a1,a2,a3,a4,a5,a6⟩:=h.apart;have hb:w'.heap[b]?=some (s.blk q):=by rw[hg.block b (h.lt b (by simp[foot])).2 (λe=>(a4 b e.symm).1 rfl)];exact h.blk
 have hsb:∀k,sv.ownBlock=some k->k≠b:=λk hk e=>by obtain⟨_,cur,h4⟩:=av ho hk;rw[e,hb]at h4;simp[aK.blk]at h4
 have e1:iH (s.ss++[x])=iH s.ss++x.cells:=by simp[iH]
 refine⟨?_,?_,?_,?_,?_,?_,h.hb,h.hvb,h.hmb⟩
 .rw[dy w' b 4 _ _ _ hb];rfl
 .rw[de _ _ _ _ (by exact a1),hg.block s.vb (h.lt s.vb (by simp[foot])).2 (λe=>(a4 s.vb e.symm).2.1 rfl)];exact h.aL
 .refine aj (w:=w') ?_ (λk hk=>de _ _ _ _ (hsb k hk));show w'.ownsRow B 138 4 sv (s.ss++[x]).length (iH (s.ss++[x]));rw[e1,dE];exact ho
 .refine h.th.of_block ?_;rw[de _ _ _ _ (by exact a2),hg.block s.mb (h.lt s.mb (by simp[foot])).2 (λe=>(a4 s.mb e.symm).2.2.1 rfl)]
 .refine aj h.ms (λk hk=>?_);rw[de _ _ _ _ (a5 k hk).1,hg.block k (h.ms.lt k hk).2 (λe=>(a4 k e.symm).2.2.2 hk)]
 refine aj h.lg (λk hk=>?_);rw[de _ _ _ _ (a6 k hk).1,hg.block k (h.lg.lt k hk).2 (λe=>(a6 k hk).2.2.2.1 e.symm)]
theorem aC.J8{B:Nat}{w:World}{b:Nat}{q:Int}{s:aK}(h:aC B w b q s)(z:Int):aC B (w.setCell (Ad b 7) (.i z)) b q {s with came:=z}:=by
 obtain⟨a1,a2,a3,a4,a5,a6⟩:=h.apart;refine⟨?_,?_,?_,?_,?_,?_,h.hb,h.hvb,h.hmb⟩
 .rw[dy w b 7 _ _ _ h.blk];rfl
 .rw[de _ _ _ _ (by exact a1)];exact h.aL
 .exact aj h.ss (λk hk=>de _ _ _ _ (a4 k hk).1)
 .exact h.th.of_block (de _ _ _ _ (by exact a2))
 .exact aj h.ms (λk hk=>de _ _ _ _ (a5 k hk).1)
 exact aj h.lg (λk hk=>de _ _ _ _ (a6 k hk).1)
theorem aC.FM{B:Nat}{w:World}{b:Nat}{q:Int}{s:aK}(h:aC B w b q s)(z:Int):aC B (w.setCell (Ad b 8) (.i z)) b q {s with taken:=z}:=by
 obtain⟨a1,a2,a3,a4,a5,a6⟩:=h.apart;refine⟨?_,?_,?_,?_,?_,?_,h.hb,h.hvb,h.hmb⟩
 .rw[dy w b 8 _ _ _ h.blk];rfl
 .rw[de _ _ _ _ (by exact a1)];exact h.aL
 .exact aj h.ss (λk hk=>de _ _ _ _ (a4 k hk).1)
 .exact h.th.of_block (de _ _ _ _ (by exact a2))
 .exact aj h.ms (λk hk=>de _ _ _ _ (a5 k hk).1)
 exact aj h.lg (λk hk=>de _ _ _ _ (a6 k hk).1)
theorem aC.put{B:Nat}{w:World}{b:Nat}{q:Int}{s:aK}(h:aC B w b q s)(hn:s.cnt<maxLen){g i:Int}(hg:In64 g)(hi:In64 i)(x:Ct):
 ∃w',(Instr.mapUpdate 132 (.map (some s.mb)) (.agg #[.i g,.i i]) x.val).run Tryz.prog w=.ok () w'∧aC B w' b q {s with th:=λg' i'=>if g'=g∧i'=i then x else s.th g' i',cnt:=s.cnt+1}∧w.grownBy w' (some s.mb)∧w.drawn=w'.drawn:=by
 obtain⟨a1,a2,a3,a4,a5,a6⟩:=h.apart;obtain⟨D,hD,hr⟩:=h.th;obtain⟨w',h1,h2,h3⟩:=hD.store qP Tryz.underlying132 hn (oJ hg hi) (show RV x.val=some (.held x.val,[]) from rfl);have hgr:=h3.grown;refine⟨w',h1,⟨?_,?_,?_,⟨_,h2,?_⟩,?_,?_,h.hb,h.hvb,h.hmb⟩,hgr,?_⟩
 .rw[hgr.block b (h.lt b (by simp[foot])).2 (by simpa using Ne.symm a2)];exact h.blk
 .rw[hgr.block s.vb (h.lt s.vb (by simp[foot])).2 (by simpa using Ne.symm a3)];exact h.aL
 .exact aj h.ss (λk hk=>hgr.block k (h.ss.lt k hk).2 (by simpa using(a4 k hk).2.2.1))
 .intro g' i' hg' hi';by_cases e:g'=g∧i'=i
  .obtain⟨rfl,rfl⟩:=e;rw[atKey_put_same hD.isMap (qP.key (oJ hg hi))];simp
  rw[atKey_put_other (λe'=>e (FN hg' hi' hg hi e'))];simp only[if_neg e];exact hr g' i' hg' hi'
 .exact aj h.ms (λk hk=>hgr.block k (h.ms.lt k hk).2 (by simpa using(a5 k hk).2.2))
 .exact aj h.lg (λk hk=>hgr.block k (h.lg.lt k hk).2 (by simpa using(a6 k hk).2.2.1))
 obtain⟨_,_,_,_,_,rfl⟩:=h3;rfl
def Nu(s:aK)(g:Int)(k:Nat):Int->Int->Ct:=λg' i=>if g'=g∧0≤i∧i<k then s.aL.getD i.toNat Ct.zero else s.th g' i
theorem FP(s:aK)(g:Int):Nu s g 0=s.th:=by funext g' i;unfold Nu;rw[if_neg (by omega)]
theorem FQ(s:aK)(g:Int)(k:Nat)(hk:k<s.aL.length):(λg' i'=>if g'=g∧i'=(k:Int)then s.aL[k]else Nu s g k g' i')=Nu s g (k+1):=by
 funext g' i;unfold Nu;by_cases h1:g'=g∧i=(k:Int)
 .rw[if_pos h1,if_pos (by omega)];obtain⟨_,rfl⟩:=h1;simp[hk]
 rw[if_neg h1];by_cases h2:g'=g∧0≤i∧i<(k:Int)
 .rw[if_pos h2,if_pos (by omega)]
 rw[if_neg h2,if_neg (by omega)]
def aK.mid(s:aK)(g t:Int)(sv:Value)(k:Nat):aK:=
 {s with
  came:=s.came+1
  ss:=s.ss++[⟨g,t,0,s.came+1⟩]
  th:=Nu s g k
  cnt:=s.cnt+k
  sv:=sv}
theorem dW{w:World}{o:Obj}{b j:Nat}(hb:b<w.heap.size)(h:w.frozen? (Ad b j)=false):(w.alloc o).drew.frozen? (Ad b j)=false:=by rw[show(w.alloc o).drew.frozen? (Ad b j)=(w.alloc o).frozen? (Ad b j) from rfl,World.frozen?_of_block (ei w o b hb)];exact h
theorem BP(B b:Nat)(q:Int)(s:aK)(g t:Int)(w:World)(h:aC B w b q s)(hs:s.ss.length<12)(hc:0≤s.came∧s.came≤1000000000000)(hv:s.aL.length≤16)(hcnt:s.cnt+s.aL.length<maxLen)(hg:In64 g):
 Rc 118 #[.p b,.i g,.i t] w (.tuple #[]) λw'=>∃sv,aC B w' b q (s.add g t sv)∧Fr (foot b s) w w'∧(∀k,sv.ownBlock=some k->s.sv.ownBlock=some k∨w.heap.size≤k):=by
 obtain⟨i0,hi,hz0,hz1,hz2⟩:=info_parts BO;obtain⟨c0,c2,c3,c4,c5,c6,c7,c8,c9⟩:=h.cells;have R1:=h.J8 (s.came+1);obtain⟨w1,hw1⟩:=eX (w.setCell (Ad b 7) (.i (s.came+1)));rw[hw1]at R1;have F1:Fr (foot b s) w w1:=by rw[<-hw1];exact fR.setCell _ (Or.inl (by simp[foot]))
 obtain⟨d0,d2,d3,d4,d5,d6,d7,d8,d9⟩:=R1.cells;have f4:=R1.frozen 4;have f7:=h.frozen 7;have e1:IntKind.i64.wrap (s.came+1)=s.came+1:=aD ⟨by omega,by omega⟩;have lb:=dm _ _ d4;have lb':b<w1.heap.size:=lb;have hBw:B≤w1.heap.size:=by have:=h.hb;omega
 have HO:=Hd R1.ss;have hne:s.sv.ownBlock≠some b:=λe=>(h.apart.2.2.2.1 b e).1 rfl;obtain⟨ao,cap,hsv⟩:=ah h.ss;have HR:=Hj3 R1 F1 hw1;have Dp:w.setCell (Ad b 7) (.i (s.came+1))=w1:=hw1;rw[hsv]at HO hne;simp only[hsv]at c4 d4;clear R1 F1 hw1 c6 d6 c9 d9 h;go_enter Tryz.func118,Tryz.ntmps118;go_wp2;go_region_law
  ((refine step_append_lies _ (by rfl) _ _ _ (by rfl) B 138 i0 _ 4 32 Tryz.underlying131 hi hz0 hz1 hz2 rfl (by omega) (.slice ao s.ss.length cap) s.ss.length (iH s.ss) (by rfl) ((HO.o.alloc _).drew) (Ad w1.heap.size 0) 1 1 [.i g,.i t,.i 0,.i (s.came+1)] (by rfl) (by rfl) (World.news_of_block (cs:=#[.i g,.i t,.i 0,.i (s.came+1)]) (t:=138) (fr:=(0,0)) (di w1 _)) (by simp[Value.oneCell']) (by omega) (by unfold maxLen;omega) (by omega) (by simp;omega) (w1.heap.size+1) (by simp) ?_;intro gg bX w9 aH hgrow hat oK;have f9:w9.frozen? (Ad b 4)=false:=(hgrow.frozen_far (Ad b 4) (by simp;omega) (Ne.symm hne)).trans (dW lb' f4);have c9:=(hgrow.cell_far (Ad b 4) (by simp;omega) (Ne.symm hne)).trans ((du (ei w1 _ b lb')).trans d4)))
 all_goals
  have Fy:Hid (aC B (w9.setCell (Ad b 4) (.slice (some (Ad gg 0)) (s.ss.length+1) bX)) b q (s.mid g t (.slice (some (Ad gg 0)) (s.ss.length+1) bX) 0)∧Fr (foot b s) w (w9.setCell (Ad b 4) (.slice (some (Ad gg 0)) (s.ss.length+1) bX))):=by
   have R2:=HR.o.1.aA (fR.alloc (.cells #[.i g,.i t,.i 0,.i (s.came+1)] 138)).drew;have R3:=R2.appended (x:=⟨g,t,0,s.came+1⟩) aH (by rw[show({s with came:=s.came+1}:aK).sv=s.sv from rfl,hsv];exact hgrow);refine⟨?_,?_⟩
   .have e:s.mid g t (.slice (some (Ad gg 0)) (s.ss.length+1) bX) 0={s with came:=s.came+1,ss:=s.ss++[⟨g,t,0,s.came+1⟩],sv:=.slice (some (Ad gg 0)) (s.ss.length+1) bX}:=by unfold aK.mid;rw[FP];rfl
    rw[e];exact R3
   refine Fr.setCell ?_ _ (Or.inl (by simp[foot]));refine(HR.o.2.1.alloc _).drew.grown hgrow (λk hk=>Or.inl ?_);simp[foot,hsv,hk]
  have HAT:Hid (∀k,(Value.slice (some (Ad gg 0)) (s.ss.length+1) bX).ownBlock=some k->s.sv.ownBlock=some k∨w.heap.size≤k):=by
   intro k hk;have hk':gg=k:=by simpa[Value.ownBlock]using hk
   subst hk';rcases hat with h|h
   .left;rw[hsv];exact h
   right;have:=HR.o.2.1.size;omega
  obtain⟨sv,zR⟩:=eX (Value.slice (some (Ad gg 0)) (s.ss.length+1) bX);obtain⟨W9,vF⟩:=eX (w9.setCell (Ad b 4) (.slice (some (Ad gg 0)) (s.ss.length+1) bX));rw[vF,zR]at Fy;rw[zR]at HAT;rw[vF];clear zR aH hgrow hat oK f9 c9 vF HO HR d0 d2 d3 d4 d5 d7 d8 c0 c2 c3 c4 c5 c7 c8 f4 f7 Dp e1;have k3:cD W9 b 3 (.slice (some (Ad s.vb 0)) s.aL.length s.aL.length):=Fy.o.1.cells.2.2.1;obtain⟨n,hn⟩:=eX s.aL.length;rw[hn]at k3 hv;have HN:=Hd hn;clear hn;go_wp2;go_loopw [37] (λi wr=>∃k:Nat,k≤n∧i=.i k∧Hid (aC B wr b q (s.mid g t sv k)∧Fr (foot b s) w wr)) (λi _=>n-(intOf i).toNat)
  case atStart=>exact⟨0,dC _,rfl,Fy⟩
  obtain⟨k,hk,rfl,HK⟩:=hrel;obtain⟨W3,hW3⟩:=eY wr;subst hW3;clear Fy k3;by_cases hlt:k<n
  .have hlt':k<s.aL.length:=by rw[HN.o];exact hlt
   have hv4:=zS HK.o.1 k hlt';obtain⟨x,hx⟩:=eX s.aL[k];have v0:W3.cell? (Ad s.vb (k*5))=some (.u (x.x.a.toNat:Int)):=by rw[<-hx];exact hv4.1
   have v1:W3.cell? (Ad s.vb (k*5+1))=some (.u (x.x.b.toNat:Int)):=by rw[<-hx];exact hv4.2.1
   have v2:W3.cell? (Ad s.vb (k*5+2))=some (.u (x.x.c.toNat:Int)):=by rw[<-hx];exact hv4.2.2.1
   have v3:W3.cell? (Ad s.vb (k*5+3))=some (.u (x.x.d.toNat:Int)):=by rw[<-hx];exact hv4.2.2.2.1
   have v4:W3.cell? (Ad s.vb (k*5+4))=some (.i x.n):=by rw[<-hx];exact hv4.2.2.2.2
   have j5:cD W3 b 5 (.map (some s.mb)):=HK.o.1.cells.2.2.2.2.1;have lb3:=dm _ _ j5;have hltz:(k:Int)<(n:Int):=by omega
   have R4:=(HK.o.1.aA ((Fr.refl [] W3).alloc (.cells #[.u (x.x.a.toNat:Int),.u (x.x.b.toNat:Int),.u (x.x.c.toNat:Int),.u (x.x.d.toNat:Int),.i x.n] 155)).drew);obtain⟨w8,Ri,Rj,Mw,_⟩:=R4.put (g:=g) (i:=(k:Int)) (by show s.cnt+k<maxLen;have:=HN.o;omega) hg ⟨by omega,by omega⟩ x;have hp:(Instr.mapUpdate 132 (.map (some s.mb)) (.agg #[.i g,.i k]) (.agg #[.u (x.x.a.toNat:Int),.u (x.x.b.toNat:Int),.u (x.x.c.toNat:Int),.u (x.x.d.toNat:Int),.i x.n])).run Tryz.prog (W3.alloc (.cells #[.u (x.x.a.toNat:Int),.u (x.x.b.toNat:Int),.u (x.x.c.toNat:Int),.u (x.x.d.toNat:Int),.i x.n] 155)).drew=.ok () w8:=Ri;have zT:Hid (aC B w8 b q (s.mid g t sv (k+1))∧Fr (foot b s) w w8):=by
    refine⟨?_,(HK.o.2.alloc _).drew.grown Mw (λj hj=>Or.inl ?_)⟩
    .have e:s.mid g t sv (k+1)={s.mid g t sv k with th:=λg' i'=>if g'=g∧i'=(k:Int)then x else Nu s g k g' i',cnt:=s.cnt+k+1}:=by unfold aK.mid;rw[<-FQ s g k hlt',hx];rfl
     rw[e];exact Rj
    have:s.mb=j:=by
     have e:(s.mid g t sv k).mb=j:=by simpa using hj
     exact e
    rw[<-this];simp[foot]
   clear R4 Ri Rj Mw hv4 hx HK;go_wp2;go_region;go_wp2;go_roundw
   case rel=>exact⟨k+1,by omega,by go_num,zT⟩
   simp[intOf];omega
  have hkk:k=n:=by omega
  subst hkk;go_wp2;go_end0;refine⟨rfl,sv,?_,HK.o.2,HAT.o⟩;have:=HK.o.1;rw[<-HN.o]at this;exact this
theorem xD{b:Nat}{s:aK}{g t n:Int}{sv:Value}{N:Nat}(h:∀k,sv.ownBlock=some k->s.sv.ownBlock=some k∨N≤k){k:Nat}(hk:k∈foot b (aK.add {s with taken:=n} g t sv)):k∈foot b s∨N≤k:=by
 simp only[foot,aK.add,dT,ek,fy,or_false,gd]at hk⊢;rcases hk with((h1|h1)|h1)|h1
 .exact Or.inl (Or.inl (Or.inl (Or.inl h1)))
 .exact(h k h1).imp_left (λh2=>Or.inl (Or.inl (Or.inr h2)))
 .exact Or.inl (Or.inl (Or.inr h1))
 exact Or.inl (Or.inr h1)
def aK.snap(s:aK)(n t:Int)(sv:Value):aK:={s with taken:=n}.add (gu s n) t sv
theorem J9(B b:Nat)(s:aK)(n t:Int)(w:World)(h:aC B w b 0 s)(ht:0≤t∧t≤1073741824)(h1:1≤s.id∧s.id≤999)(h2:0≤s.taken∧n≤999999)(hf:Fx s n)(hs:s.ss.length<12)(hm:s.ms.length≤12)
 (hc:0≤s.came∧s.came≤1000000000000)(hv:s.aL.length≤16)(hcnt:s.cnt+s.aL.length<maxLen)(hl:s.log.length≤140000000000000):
 Rc 65 #[.p b,.i t] w (.tuple #[.i (gu s n),.i 0]) λw'=>∃sv lv,aC B w' b 0 ((s.snap n t sv).noted 83 (n4 t).ba lv)∧Fr (foot b s) w w'∧(∀k,sv.ownBlock=some k->s.sv.ownBlock=some k∨w.heap.size≤k)∧(∀k,lv.ownBlock=some k->s.lv.ownBlock=some k∨w.heap.size≤k):=by
 have R1:=h.lock 1;obtain⟨w1,hw1⟩:=eX (w.setCell (Ad b 0) (.int .i32 1));rw[hw1]at R1;have HL:=lock_free Tryz.muLib (Ad b 0) w h.cells.1 (h.frozen 0);have F1:Fr (foot b s) w w1:=by rw[<-hw1];exact aV b s w _
 have HF:=Hj3 hw1 R1 F1;have HN:=Hd (xB B b 1 s n w1 R1 h1 ⟨by omega,by have:=hf.lo;omega⟩ hf (by omega) (by omega));have hlo:=hf.lo;have hG:In64 (gu s n):=by unfold gu;exact⟨by omega,by omega⟩
 have HG:=Hd λW hW=>qO B b 1 {s with taken:=n} n W hW h1 ⟨by omega,by omega⟩;have HA:=Hd λW hW=>BP B b 1 {s with taken:=n} (gu s n) t W hW hs hc hv hcnt hG;have HU:=λW=>bf t W;have oF:=Hd λW sv hW=>gD B b 1 (aK.add {s with taken:=n} (gu s n) t sv) 83 (n4 t).ba W hW (by show 4≤1000;omega) hl;obtain⟨ao,cap,hsv⟩:=ah h.ss;have t1:decide (t<0)=false:=by simp;omega
 have t2:decide (t>1073741824)=false:=by simp;omega
 have t3:¬((12:Int)≤(s.ss.length:Int)):=by omega
 have t4:¬((1000000:Int)≤n):=by omega
 unfold aK.snap;have hgu:gu {s with taken:=n} n=gu s n:=rfl;obtain⟨g,hg⟩:=eX (gu s n);rw[hgu,hg]at HG;rw[hg]at HA oF⊢;obtain⟨ba,hba⟩:=eX (n4 t).ba;rw[hba]at oF⊢;simp only[hba]at HU;have V8:=Hd HU;clear HU hba;clear h R1 F1 hw1 hf hg hgu hG hlo;go_enter_defers Tryz.func65,Tryz.ntmps65;go_wp2_with (first
  |(go_at_call 50;refine HL.mono ?_;rintro e w' ⟨rfl,hw'⟩;rw[HF.o.1]at hw';subst hw')
  |(go_at_call 116;refine HN.o.mono ?_;rintro e w2 ⟨rfl,hfr⟩;have HR2:=Hj2 (HF.o.2.1.aA hfr) (HF.o.2.2.trans hfr (by simp));have c4:w2.cell? (Ad b 4)=some (.slice ao s.ss.length cap):=by rw[<-hsv];exact HR2.o.1.cells.2.2.2.1
    have c8:cE w2 b 8 s.taken:=HR2.o.1.cells.2.2.2.2.2.2.2.1;have f8:=HR2.o.1.frozen 8;have HR3:Hid (aC B (w2.setCell (Ad b 8) (.i n)) b 1 {s with taken:=n}∧Fr (foot b s) w (w2.setCell (Ad b 8) (.i n))):=⟨HR2.o.1.FM n,HR2.o.2.setCell _ (Or.inl (by simp[foot]))⟩;clear hfr)
  |(go_at_call 117;refine(HG.o _ HR3.o.1).mono ?_;rintro e w' ⟨rfl,hw'⟩;subst w')
  |(go_at_call 118;refine(HA.o _ HR3.o.1).mono ?_;rintro e w4 ⟨rfl,sv,r4,f4,a4⟩;have HR4:Hid (aC B w4 b 1 (aK.add {s with taken:=n} g t sv)∧Fr (foot b s) w w4∧(∀k,sv.ownBlock=some k->s.sv.ownBlock=some k∨w.heap.size≤k)):=⟨r4,HR3.o.2.trans f4 (λk hk=>Or.inl hk),λk hk=>(a4 k hk).imp_right (λh=>eJ HR3.o.2.size h)⟩;clear r4 f4 a4)
  |(go_at_call 110;refine(V8.o _).mono ?_;rintro e w5 ⟨rfl,f5⟩;have mZ:Hid (aC B w5 b 1 (aK.add {s with taken:=n} g t sv)∧Fr (foot b s) w w5):=⟨HR4.o.1.aA f5,HR4.o.2.1.trans f5 (by simp)⟩;clear f5)
  |(go_at_call 113;refine(oF.o _ sv mZ.o.1).mono ?_;rintro e w6 ⟨rfl,lv,r6,f6,a6⟩;have dJ:Hid (aC B w6 b 1 ((aK.add {s with taken:=n} g t sv).noted 83 ba lv)∧Fr (foot b s) w w6∧(∀k,lv.ownBlock=some k->s.lv.ownBlock=some k∨w.heap.size≤k)):=⟨r6,mZ.o.2.trans f6 (λk hk=>?_),λk hk=>(a6 k hk).imp_right (λh=>eJ mZ.o.2.size h)⟩;clear r6 f6 a6;rotate_left;exact xD HR4.o.2.2 hk))
 refine leaves_cons (f:=51) (args:=#[.p b]) (by simp) (by simp[go_sem]) ?_;refine(eK Tryz.muLib (Ad b 0) .returning _ dJ.o.1.cells.1 (dJ.o.1.frozen 0)).mono ?_;rintro e u' w'' ⟨rfl,rfl,rfl⟩;exact⟨_,ft rfl _ _ _,rfl,sv,lv,dJ.o.1.lock 0,dJ.o.2.1.setCell _ (Or.inl (by simp[foot])),HR4.o.2.2,dJ.o.2.2⟩
theorem aC.look{B:Nat}{w:World}{b:Nat}{q:Int}{s:aK}(h:aC B w b q s){g i:Int}(hg:In64 g)(hi:In64 i):
 (Instr.lookup 132 (.map (some s.mb)) (.agg #[.i g,.i i]) false).run Tryz.prog w=.ok (s.th g i).val w:=by
 obtain⟨D,hD,hr⟩:=h.th;obtain⟨v,ps,h1,h2⟩:=hD.lookup qP Tryz.underlying132 (z:=Ct.zero.val) (Tryz.zeroValue155 w) (show RV Ct.zero.val=some (.held Ct.zero.val,[]) from rfl) (oJ hg hi);rw[hr g i hg hi]at h2;simp[RV]at h2;rw[h1,h2.1]
theorem Rk(B b:Nat)(s:aK)(g:Int)(k:Nat)(w:World)(h:aC B w b 0 s)(hl:s.ss.length≤1000000)(hg:In64 g)(hx:∃x∈s.ss,(x.au==g)=true)(hk:k<s.aL.length)(hv:s.aL.length≤16):
 Rc 68 #[.p b,.i g,.i k] w (.tuple #[(s.th g k).x.str,.i 0]) λw'=>aC B w' b 0 s∧Fr (foot b s) w w':=by
 have R1:=h.lock 1;obtain⟨w1,hw1⟩:=eX (w.setCell (Ad b 0) (.int .i32 1));rw[hw1]at R1;have HL:=lock_free Tryz.muLib (Ad b 0) w h.cells.1 (h.frozen 0);have F1:Fr (foot b s) w w1:=by rw[<-hw1];exact aV b s w _
 have HF:=Hj3 hw1 R1 F1;obtain⟨j,hj,e0,_⟩:=dx s.ss 0 hx;have HS:=aF B b 1 s g w1 R1 hl;rw[e0,eV]at HS;have HC:=Hd λW=>fF B b 1 s k W;have hb:(decide ((0:Int)≤(k:Int))&&decide ((k:Int)<(s.aL.length:Int)))=true:=by simp;omega
 have HK:Hid (∀W,aC B W b 1 s->_):=λW hW=>aC.look hW hg (i:=(k:Int)) ⟨by omega,by omega⟩;obtain⟨x,Y2⟩:=eX (s.th g k);rw[Y2]at HK⊢;have hcv:=λW:World=>qQ (w:=W.alloc (.cells #[u8 x.x.a,u8 x.x.b,u8 x.x.c,u8 x.x.d,.i x.n] 155)) (vb:=W.heap.size) (o:=0) (x:=x.x) (by simp) (by simp) (by simp) (by simp);have Rl:∀W:World,(convert 134 9 (.slice (some (Ad W.heap.size 0)) 4 4)).run Tryz.prog (W.alloc (.cells #[.u (x.x.a.toNat:Int),.u (x.x.b.toNat:Int),.u (x.x.c.toNat:Int),.u (x.x.d.toNat:Int),.i x.n] 155))=.ok x.x.str (W.alloc (.cells #[.u (x.x.a.toNat:Int),.u (x.x.b.toNat:Int),.u (x.x.c.toNat:Int),.u (x.x.d.toNat:Int),.i x.n] 155)):=hcv;clear h R1 F1 hw1 Y2 hx hcv e0;go_enter_defers Tryz.func68,Tryz.ntmps68;go_wp2_with (first
  |(go_at_call 50;refine HL.mono ?_;rintro e w' ⟨rfl,hw'⟩;rw[HF.o.1]at hw';subst hw')
  |(go_at_call 53;refine HS.mono ?_;rintro e w2 ⟨rfl,hfr⟩;have HR2:=Hj2 (HF.o.2.1.aA hfr) (HF.o.2.2.trans hfr (by simp));have c5:cD w2 b 5 (.map (some s.mb)):=HR2.o.1.cells.2.2.2.2.1;have lk:(Instr.lookup 132 (.map (some s.mb)) (.agg #[.i g,.i k]) false).run Tryz.prog w2=.ok (.agg #[.u (x.x.a.toNat:Int),.u (x.x.b.toNat:Int),.u (x.x.c.toNat:Int),.u (x.x.d.toNat:Int),.i x.n]) w2:=HK.o w2 HR2.o.1;have hcw:=Rl w2;have HR3:Hid (aC B (w2.alloc (.cells #[.u (x.x.a.toNat:Int),.u (x.x.b.toNat:Int),.u (x.x.c.toNat:Int),.u (x.x.d.toNat:Int),.i x.n] 155)) b 1 s∧Fr (foot b s) w (w2.alloc (.cells #[.u (x.x.a.toNat:Int),.u (x.x.b.toNat:Int),.u (x.x.c.toNat:Int),.u (x.x.d.toNat:Int),.i x.n] 155))):=⟨HR2.o.1.aA (fR.alloc _),HR2.o.2.alloc _⟩;clear hfr Rl)
  |(go_at_call 52;refine(HC.o _ HR2.o.1).mono ?_;rintro e w' ⟨rfl,hw'⟩;subst w';rw[hb]))
 refine leaves_cons (f:=51) (args:=#[.p b]) (by simp) (by simp[go_sem]) ?_;refine(eK Tryz.muLib (Ad b 0) .returning _ HR3.o.1.cells.1 (HR3.o.1.frozen 0)).mono ?_;rintro e u' w'' ⟨rfl,rfl,rfl⟩;exact⟨_,ft rfl _ _ _,rfl,HR3.o.1.lock 0,HR3.o.2.setCell _ (Or.inl (by simp[foot]))⟩
theorem Nv:(Tryz.prog.info? 155).map (λi=>(i.zero,i.size,i.bytes))=some (some (.agg #[.u 0,.u 0,.u 0,.u 0,.i 0]),5,16):=by kernel_rfl
theorem FR(n:Nat)(hn:n≤16):(madeCells (Value.agg #[.u 0,.u 0,.u 0,.u 0,.i 0]).cells (n*5)).toList=mO (List.replicate n Ct.zero):=by rcases(by omega:n=0∨n=1∨n=2∨n=3∨n=4∨n=5∨n=6∨n=7∨n=8∨n=9∨n=10∨n=11∨n=12∨n=13∨n=14∨n=15∨n=16)with h|h|h|h|h|h|h|h|h|h|h|h|h|h|h|h|h<;>subst h<;>kernel_rfl
def aK.fresh(id:Int)(n vb mb:Nat):aK:=
 {id:=id,aL:=List.replicate n Ct.zero,ss:=[],th:=λ_ _=>Ct.zero,ms:=[],came:=0,taken:=0,vb:=vb,mb:=mb,cnt:=0,sv:=.slice none 0 0,mv:=.slice none 0 0,log:=[],lv:=.slice none 0 0}
theorem gF{w:World}{base g n size:Nat}{e:TypeId}{xs:List Value}(h:w.ownsRow base e size (.slice (some (Ad g 0)) n n) n xs):w.heap[g]?=some (.cells xs.toArray e (0,0)):=by
 rcases h.2 with⟨h1,_⟩|⟨g',c,cur,h1,hb,hg,hc,hm,hs,ht⟩
 .simp at h1
 simp at h1;obtain⟨rfl,rfl⟩:=h1;rw[hg,<-ht,eL (by rw[fk,hs];exact eh _)]
theorem Dq{w w1:World}{id:Int}{n:Nat}(hb:w1.heap[w.heap.size]?=some (.cells (mO (List.replicate n Ct.zero)).toArray 155 (0,0)))(l1:w.heap.size<w1.heap.size):
 aC w.heap.size ((w1.alloc (.map #[] 0)).alloc (.cells #[.int .i32 0,.int .u32 0,.i id,.slice (some (Ad w.heap.size 0)) n n,.slice none 0 0,.map (some w1.heap.size),.slice none 0 0,.i 0,.i 0,.slice none 0 0] 136)) (w1.heap.size+1) 0 (aK.fresh id n w.heap.size w1.heap.size):=by
 refine⟨?_,?_,?_,?_,?_,?_,?_,?_,?_⟩
 .have:=di (w1.alloc (.map #[] 0)) (.cells #[.int .i32 0,.int .u32 0,.i id,.slice (some (Ad w.heap.size 0)) n n,.slice none 0 0,.map (some w1.heap.size),.slice none 0 0,.i 0,.i 0,.slice none 0 0] 136);rw[show(w1.alloc (.map #[] 0)).heap.size=w1.heap.size+1 by simp]at this;rw[this];simp[aK.blk,aK.fresh]
 .rw[ei _ _ _ (by simp[aK.fresh];omega),ei _ _ _ (by simp[aK.fresh];omega)];exact hb
 .exact eA _ _ _ _
 .refine MapOf.of_block (w:=w1.alloc (.map #[] 0)) ⟨.map [],World.ownsMap_made w1 _ _ _,λg i _ _=>?_⟩ (ei _ _ _ (by simp[aK.fresh]));rfl
 .exact eA _ _ _ _
 .exact eA _ _ _ _
 .show w.heap.size≤w1.heap.size+1;omega
 .exact eh _
 show w.heap.size≤w1.heap.size;omega
def xE(id:Int)(n:Nat):cC:=(n4 id).ba++⟨#[eH n]⟩
theorem kF{W w5:World}{y:UInt8}(f:Fr [] (W.alloc (.cells #[.u (y.toNat:Int)] 5)) w5):(convert 134 9 (.slice (some (Ad W.heap.size 0)) 1 1)).run Tryz.prog w5=.ok (.t ⟨#[y]⟩) w5:=by refine Mx ?_;rw[du (f.block W.heap.size (by simp) (by simp))];simp[u8]
theorem FT{w W0 W:World}{b:Nat}{s:aK}{t:cC}(h0:aC w.heap.size W0 b 0 s)(f0:Fr [] w W0)(f:Fr [] W0 W)(ht:t.size≤1000)(hl:s.log.length≤140000000000000):
 Rc 113 #[.p b,.u 78,.t t] W (.tuple #[]) λw'=>∃lv,aC w.heap.size w' b 0 (s.noted 78 t lv)∧Fr [] w w':=by
 have hr:=h0.aA f;refine(gD w.heap.size b 0 s 78 t W hr ht hl).mono ?_;rintro e w' ⟨rfl,lv,r,f6,_⟩;exact⟨rfl,lv,r,(f0.trans f (by simp)).trans f6 (λk hk=>Or.inr (hr.lt k hk).1)⟩
theorem Nw(id:Int)(n:Nat)(w:World)(h1:1≤id∧id≤999)(h2:1≤n∧n≤16):
 Cl 60 #[.i id,.i n] w λe w'=>∃b vb mb lv,e=.returned (.tuple #[.p b,.i 0])∧aC w.heap.size w' b 0 ((aK.fresh id n vb mb).noted 78 (xE id n) lv)∧Fr [] w w':=by
 obtain⟨i0,hi,hz0,hz1,hz2⟩:=info_parts Nv;have t1:decide (id<1)=false:=by simp;omega
 have t2:decide (id>999)=false:=by simp;omega
 have t3:decide ((n:Int)<1)=false:=by simp;omega
 have t4:decide ((n:Int)>16)=false:=by simp;omega
 have hmm:∀W,(Instr.makeMap 132 none).run Tryz.prog W=.ok (.map (some W.heap.size)) (W.alloc (.map #[] 0)):=λW=>run_makeMap 132 W;go_enter Tryz.func60,Tryz.ntmps60;go_wp2_with (at_make;refine wpList_make_full _ rfl _ _ 130 rfl w.heap.size 155 i0 _ 5 Tryz.underlying130 hi hz0 hz1 _ _ _ _ n rfl rfl rfl rfl (by rw[hz2];omega) (by unfold maxLen;omega) (by simp) ?_;intro w1 hown1 hgrow1);rw[FR n h2.2]at hown1;have hb:=gF hown1;have l1:w.heap.size<w1.heap.size:=(cY.1 hb).1;have Y3:Fr [] w w1:=fR.grown hgrow1 (λk h=>by cases h);have xG:Hid (_∧Fr [] w ((w1.alloc (.map #[] 0)).alloc (.cells #[.int .i32 0,.int .u32 0,.i id,.slice (some (Ad w.heap.size 0)) n n,.slice none 0 0,.map (some w1.heap.size),.slice none 0 0,.i 0,.i 0,.slice none 0 0] 136))):=⟨Dq (id:=id) (n:=n) hb l1,(Y3.alloc _).alloc _⟩;obtain⟨W0,hW0⟩:=eX ((w1.alloc (.map #[] 0)).alloc (.cells #[.int .i32 0,.int .u32 0,.i id,.slice (some (Ad w.heap.size 0)) n n,.slice none 0 0,.map (some w1.heap.size),.slice none 0 0,.i 0,.i 0,.slice none 0 0] 136));rw[hW0]at xG⊢;obtain⟨b,hbb⟩:=eX (w1.heap.size+1);obtain⟨mb,hmb⟩:=eX w1.heap.size;rw[hbb,hmb]at xG;rw[hbb,hmb];have HU:=Hd λW=>bf id W;obtain⟨ba,hba⟩:=eX (n4 id).ba;rw[hba]at HU;clear hown1 hgrow1 hb l1 Y3 hW0 hbb hmb;have hwr:IntKind.u8.wrap (n:Int)=((eH n).toNat:Int):=by rw[<-dX];simp[IntKind.wrap,IntKind.bits,IntKind.signed]
 obtain⟨y,hy⟩:=eX (eH n);rw[hy]at hwr;have HY:=Hj2 hy hba;have hcv:∀W:World,(convert 134 9 (.slice (some (Ad W.heap.size 0)) 1 1)).run Tryz.prog (W.alloc (.cells #[.u (y.toNat:Int)] 5))=.ok (.t ⟨#[y]⟩) (W.alloc (.cells #[.u (y.toNat:Int)] 5)):=λW=>kF fR;have xH:(convert 134 9 (.slice (some (Ad W0.heap.size 0)) 1 1)).run Tryz.prog (W0.alloc (.cells #[.u (y.toNat:Int)] 5)).drew=.ok (.t ⟨#[y]⟩) (W0.alloc (.cells #[.u (y.toNat:Int)] 5)).drew:=kF ((Fr.refl [] _).drew);have hsa:ba.size=4:=by rw[<-hba];rfl
 have hsy:(⟨#[y]⟩:cC).size=1:=rfl;clear hy hba;go_region_with (first
  |(go_at_call 110;refine(HU.o _).mono ?_;rintro e w5 ⟨rfl,f5⟩;first|(have Dr:=kF f5)|(have Dr:=kF (y:=y) (((Fr.refl [] _).drew).trans f5 (by simp)))|skip)
  |(go_at_call 113;refine(FT xG.o.1 xG.o.2 (by first|exact((((Fr.refl [] W0).drew).trans f5 (by simp)).alloc _)|exact(((Fr.refl [] W0).drew.alloc _).trans f5 (by simp))|exact(((Fr.refl [] W0).alloc _).drew.trans f5 (by simp))|exact(((Fr.refl [] W0).trans f5 (by simp)).alloc _)|exact(((Fr.refl [] W0).trans f5 (by simp)).alloc _).drew|exact((((Fr.refl [] W0).drew).trans f5 (by simp)).alloc _).drew|exact(((Fr.refl [] W0).alloc _).trans f5 (by simp)).drew|exact(((Fr.refl [] W0).alloc _).trans f5 (by simp))) (by rw[fY,hsa,hsy];omega) (by show 0≤140000000000000;omega)).mono ?_;rintro e w6 ⟨rfl,lv,r6,f6⟩;have dJ:=Hj2 r6 f6;clear r6 f6))
 all_goals
  go_wp2;go_ret2;refine⟨b,w.heap.size,mb,lv,rfl,?_,dJ.o.2⟩;unfold xE;rw[HY.o.1,HY.o.2];exact dJ.o.1
def t3(x:Sn):Int×Int×Int:=(x.au,x.time,x.holds)
def Ny(x:Int×Int×Int):List Value:=[.i x.1,.i x.2.1,.i x.2.2]
def dL(l:List (Int×Int×Int)):List Value:=l.flatMap Ny
theorem BQ(l:List (Int×Int×Int)):(dL l).length=l.length*3:=by
 induction l with
 |nil=>rfl
 |cons x r ih=>simp[dL,Ny]at ih⊢;omega
theorem Rm:∀(l:List (Int×Int×Int))(k:Nat)(x:Int×Int×Int),k<l.length->(((dL l).set (k*3) (.i x.1)).set (k*3+1) (.i x.2.1)).set (k*3+2) (.i x.2.2)=dL (l.set k x)
 |[],k,_,h=>by simp at h
 |y::r,0,x,_=>by simp[dL,Ny]
 |y::r,k+1,x,h=>by
  have ih:=Rm r k x (by simpa using h);have e:(k+1)*3=k*3+3:=by omega
  simp only[dL,gC,List.set_cons_succ,Ny,fL,fe,e]at ih⊢;simpa[List.set_cons_succ]using ih
def told(l:List Sn)(k:Nat):List (Int×Int×Int):=(l.take k).map t3++List.replicate (l.length-k) (0,0,0)
theorem xI(l:List Sn)(k:Nat)(h:k≤l.length):(told l k).length=l.length:=by simp[told];omega
theorem FU(l:List Sn)(k:Nat)(h:k<l.length):(told l k).set k (t3 l[k])=told l (k+1):=by unfold told;rw[fl _ _ (by simp;omega),eI,eM,fN (Nat.le_of_lt h),Nat.sub_self,show l.length-k=(l.length-(k+1))+1 by omega,List.replicate_succ,List.set_cons_zero,ew h,fj,jj];rfl
theorem FV(l:List Sn):told l l.length=l.map t3:=by simp[told]
theorem Dt(l:List Sn)(h:l.length≤12):(madeCells (Value.agg #[.i 0,.i 0,.i 0]).cells (l.length*3)).toList=dL (told l 0):=by rw[show told l 0=List.replicate l.length (0,0,0) by simp[told]];obtain⟨n,hn⟩:=eX l.length;rw[hn]at h⊢;rcases(by omega:n=0∨n=1∨n=2∨n=3∨n=4∨n=5∨n=6∨n=7∨n=8∨n=9∨n=10∨n=11∨n=12)with h|h|h|h|h|h|h|h|h|h|h|h|h<;>subst h<;>kernel_rfl
theorem vG:(Tryz.prog.info? 84).map (λi=>(i.zero,i.size,i.bytes))=some (some (.agg #[.i 0,.i 0,.i 0]),3,24):=by kernel_rfl
theorem oL(B b:Nat)(s:aK)(w:World)(h:aC B w b 0 s)(hl:s.ss.length≤12):
 Cl 21 #[.p b] w λe w'=>∃gg,e=.returned (.slice (some (Ad gg 0)) s.ss.length s.ss.length)∧w.heap.size≤gg∧w'.heap[gg]?=some (.cells (dL (s.ss.map t3)).toArray 84 (0,0))∧aC B w' b 0 s∧Fr (foot b s) w w':=by
 obtain⟨i0,hi,hz0,hz1,hz2⟩:=info_parts vG;have R1:=h.lock 1;obtain⟨w1,hw1⟩:=eX (w.setCell (Ad b 0) (.int .i32 1));rw[hw1]at R1;have HL:=lock_free Tryz.muLib (Ad b 0) w h.cells.1 (h.frozen 0);have F1:Fr (foot b s) w w1:=by rw[<-hw1];exact aV b s w _
 have hz:w1.heap.size=w.heap.size:=by rw[<-hw1];simp
 have HF:=Hj4 hw1 R1 F1 hz;obtain⟨ao,cap,hsv⟩:=ah h.ss;have c4:w1.cell? (Ad b 4)=some (.slice ao s.ss.length cap):=by rw[<-hsv];exact R1.cells.2.2.2.1
 have lb:=dm _ _ c4;obtain⟨n,hn⟩:=eX s.ss.length;have HN:Hid (s.ss.length=n∧s.sv=.slice ao n cap):=⟨hn,by rw[hsv,hn]⟩;rw[hn]at c4 hl⊢;clear h R1 F1 hw1 hz hn hsv;go_enter_defers Tryz.func21,Tryz.ntmps21;go_wp2_with (first
  |(go_at_call 50;refine HL.mono ?_;rintro e w' ⟨rfl,hw'⟩;rw[HF.o.1]at hw';have hw':=hw'.symm;subst hw')
  |(at_make;refine wpList_make_full _ rfl _ _ 85 rfl w1.heap.size 84 i0 _ 3 Tryz.underlying85 hi hz0 hz1 _ _ _ _ n rfl rfl rfl rfl (by rw[hz2];omega) (by unfold maxLen;omega) (by simp) ?_;intro w2 hown2 hgrow2;have Nz:=(hgrow2.cell_far (Ad b 4) lb (by simp)).trans c4))
 have hz':=HF.o.2.2.2;have hd:w2.heap[w1.heap.size]?=some (.cells (dL (told s.ss 0)).toArray 84 (0,0)):=by have:=gF hown2;rw[<-HN.o.1,Dt s.ss (by rw[HN.o.1];exact hl)]at this;exact this
 have HW:Hid (aC B w2 b 1 s∧Fr (foot b s) w w2∧w2.heap[w1.heap.size]?=some (.cells (dL (told s.ss 0)).toArray 84 (0,0))):=⟨HF.o.2.1.aA (fR.grown hgrow2 (λk h=>by cases h)),HF.o.2.2.1.grown hgrow2 (λk h=>by cases h),hd⟩;obtain⟨gg,hgg⟩:=eX w1.heap.size;have hg0:w.heap.size≤gg:=by omega
 rw[hgg]at HW⊢;clear hown2 hgrow2 hd hz' c4 hgg;go_loopw [24] (λi wr=>∃k:Nat,k≤n∧i=.i k∧Hid (aC B wr b 1 s∧Fr (foot b s) w wr∧wr.heap[gg]?=some (.cells (dL (told s.ss k)).toArray 84 (0,0)))) (λi _=>n-(intOf i).toNat)
 case atStart=>exact⟨0,dC _,rfl,HW⟩
 obtain⟨k,hk,rfl,HK⟩:=hrel;obtain⟨W3,hW3⟩:=eY wr;subst hW3;clear HW Nz;by_cases hlt:k<n
 .have hlt':k<s.ss.length:=by rw[HN.o.1];exact hlt
  have ho:=HK.o.1.ss;rw[HN.o.2,HN.o.1]at ho;obtain⟨sg,hao,hcap,hc⟩:=aB ho (by omega);have hs:=iW s.ss k hlt';obtain⟨x,hx⟩:=eX s.ss[k];rw[hx]at hs;subst hao;have d0:W3.cell? (Ad sg (k*4))=some (.i x.au):=by rw[hc _ (by omega)];exact hs.1
  have d1:W3.cell? (Ad sg (k*4+1))=some (.i x.time):=by rw[hc _ (by omega)];exact hs.2.1
  have d2:W3.cell? (Ad sg (k*4+2))=some (.i x.holds):=by rw[hc _ (by omega)];exact hs.2.2.1
  have d3:W3.cell? (Ad sg (k*4+3))=some (.i x.came):=by rw[hc _ (by omega)];exact hs.2.2.2
  have hgl:gg<W3.heap.size:=(cY.1 HK.o.2.2).1;have hll:(dL (told s.ss k)).length=n*3:=by rw[BQ,xI _ _ (by omega),HN.o.1]
  have g0:∃v,W3.cell? (Ad gg (k*3))=some v:=by rw[cell_of HK.o.2.2,dq];exact⟨_,dp (by omega)⟩
  have g1:∃v,W3.cell? (Ad gg (k*3+1))=some v:=by rw[cell_of HK.o.2.2,dq];exact⟨_,dp (by omega)⟩
  have g2:∃v,W3.cell? (Ad gg (k*3+2))=some v:=by rw[cell_of HK.o.2.2,dq];exact⟨_,dp (by omega)⟩
  obtain⟨y0,g0⟩:=g0;obtain⟨y1,g1⟩:=g1;obtain⟨y2,g2⟩:=g2;have z0:W3.frozen? (Ad gg (k*3))=false:=ay HK.o.2.2 _;have z1:W3.frozen? (Ad gg (k*3+1))=false:=ay HK.o.2.2 _;have z2:W3.frozen? (Ad gg (k*3+2))=false:=ay HK.o.2.2 _;have hltz:(k:Int)<(n:Int):=by omega
  have zT:Hid (aC B ((((W3.setCell (Ad gg (k*3)) (.i x.au)).setCell (Ad gg (k*3+1)) (.i x.time)).setCell (Ad gg (k*3+2)) (.i x.holds)).alloc (.cells #[.i x.au,.i x.time,.i x.holds,.i x.came] 138)) b 1 s∧Fr (foot b s) w ((((W3.setCell (Ad gg (k*3)) (.i x.au)).setCell (Ad gg (k*3+1)) (.i x.time)).setCell (Ad gg (k*3+2)) (.i x.holds)).alloc (.cells #[.i x.au,.i x.time,.i x.holds,.i x.came] 138))∧((((W3.setCell (Ad gg (k*3)) (.i x.au)).setCell (Ad gg (k*3+1)) (.i x.time)).setCell (Ad gg (k*3+2)) (.i x.holds)).alloc (.cells #[.i x.au,.i x.time,.i x.holds,.i x.came] 138)).heap[gg]?=some (.cells (dL (told s.ss (k+1))).toArray 84 (0,0))):=by
   refine⟨?_,?_,?_⟩
   .refine aC.aA (w:=((W3.setCell (Ad gg (k*3)) (.i x.au)).setCell (Ad gg (k*3+1)) (.i x.time)).setCell (Ad gg (k*3+2)) (.i x.holds)) (HK.o.1.mD (λj hj=>?_)) (fR.alloc _);have Rn:j≠gg:=by have:=(HF.o.2.1.lt j hj).2;rw[HF.o.2.2.2]at this;omega
    rw[de _ _ _ _ Rn,de _ _ _ _ Rn,de _ _ _ _ Rn]
   .exact(((HK.o.2.1.setCell _ (Or.inr hg0)).setCell _ (Or.inr hg0)).setCell _ (Or.inr hg0)).alloc _
   rw[ei _ _ _ (by simpa using hgl)];rw[dy _ gg (k*3+2) _ _ _ (dy _ gg (k*3+1) _ _ _ (dy _ gg (k*3) _ _ _ HK.o.2.2))];rw[<-FU s.ss k hlt',hx,<-Rm _ k (t3 x) (by rw[xI _ _ (by omega)];exact hlt')];simp[t3]
  clear hc hs ho HK hx hll;go_wp2;go_roundw
  case rel=>exact⟨k+1,by omega,by go_num,zT⟩
  simp[intOf];omega
 have hkk:k=n:=by omega
 subst hkk;have FW:Hid (aC B W3 b 1 s∧Fr (foot b s) w W3∧W3.heap[gg]?=some (.cells (dL (s.ss.map t3)).toArray 84 (0,0))):=by have:=HK.o;rw[<-FV,HN.o.1];exact this
 clear HK;go_wp2;refine leaves_cons (f:=51) (args:=#[.p b]) (by simp) (by simp[go_sem]) ?_;refine(eK Tryz.muLib (Ad b 0) .returning _ FW.o.1.cells.1 (FW.o.1.frozen 0)).mono ?_;rintro e u' w'' ⟨rfl,rfl,rfl⟩;refine⟨_,results_tmp rfl _ _ _,gg,rfl,hg0,?_,FW.o.1.lock 0,FW.o.2.1.setCell _ (Or.inl (by simp[foot]))⟩;rw[de _ _ _ _ (λe=>?_)]
 .exact FW.o.2.2
 have:=(HF.o.2.1.lt b (by simp[foot])).2;rw[HF.o.2.2.2]at this;simp at e;omega
theorem qw{w:World}{base g n cap size j:Nat}{e:TypeId}{xs:List Value}(h:w.ownsRow base e size (.slice (some (Ad g 0)) n cap) n xs)(v:Value)(_hj:j<n*size):(w.setCell (Ad g j) v).ownsRow base e size (.slice (some (Ad g 0)) n cap) n (xs.set j v):=by
 refine⟨by rw[eR];exact h.1,?_⟩;rcases h.2 with⟨h1,_⟩|⟨g',c,cur,h1,hb,hg,hc,hm,hs,ht⟩
 .simp at h1
 simp at h1;obtain⟨rfl,rfl⟩:=h1;refine Or.inr ⟨g,cap,cur.setIfInBounds j v,rfl,hb,dy w g j cur e v hg,hc,hm,by simpa using hs,?_⟩;rw[<-ht,Array.toList_setIfInBounds,List.take_set]
def Sn.hold(x:Sn)(z:Int):Sn:={x with holds:=z}
def aK.setH(s:aK)(j:Nat)(x:Sn)(z:Int):aK:={s with ss:=s.ss.set j (x.hold z)}
theorem BU:∀(l:List Sn)(j:Nat)(x:Sn)(z:Int),l[j]?=some x->(iH l).set (j*4+2) (.i z)=iH (l.set j (x.hold z))
 |[],_,_,_,h=>by simp at h
 |y::r,0,x,z,h=>by simp at h;subst h;simp[iH,Sn.cells,Sn.hold]
 |y::r,j+1,x,z,h=>by
  have ih:=BU r j x z (by simpa using h);have e:(j+1)*4+2=j*4+2+4:=by omega
  simp only[iH,gC,List.set_cons_succ,Sn.cells,fL,fe,e]at ih⊢;simpa[List.set_cons_succ]using ih
theorem aC.setH{B:Nat}{w:World}{b:Nat}{q:Int}{s:aK}(h:aC B w b q s){j:Nat}{x:Sn}(hx:s.ss[j]?=some x)(z:Int){gg cap:Nat}(hsv:s.sv=.slice (some (Ad gg 0)) s.ss.length cap):aC B (w.setCell (Ad gg (j*4+2)) (.i z)) b q (s.setH j x z):=by
 obtain⟨a1,a2,a3,a4,a5,a6⟩:=h.apart;have hj:j<s.ss.length:=(df.1 hx).1;have hgg:s.sv.ownBlock=some gg:=by rw[hsv];rfl
 have an:=a4 gg hgg;refine⟨?_,?_,?_,?_,?_,?_,h.hb,h.hvb,h.hmb⟩
 .rw[de _ _ _ _ (by exact Ne.symm an.1)];exact h.blk
 .rw[de _ _ _ _ (by exact Ne.symm an.2.1)];exact h.aL
 .show(w.setCell (Ad gg (j*4+2)) (.i z)).ownsRow B 138 4 s.sv (s.ss.set j (x.hold z)).length (iH (s.ss.set j (x.hold z)));rw[<-BU _ _ _ _ hx,eR,hsv];have ho:=h.ss;rw[hsv]at ho;exact qw ho _ (by omega)
 .exact h.th.of_block (de _ _ _ _ (by exact Ne.symm an.2.2.1))
 .exact aj h.ms (λk hk=>de _ _ _ _ (λe=>by have e':k=gg:=e;subst e';exact an.2.2.2 hk))
 exact aj h.lg (λk hk=>de _ _ _ _ (λe=>by have e':k=gg:=e;subst e';exact(a6 k hk).2.2.2.1 hgg))
theorem Kj(B b:Nat)(s:aK)(g:Int)(j:Nat)(x:Sn)(w:World)(h:aC B w b 0 s)(hl:s.ss.length≤12)(hf:fi (λy:Sn=>y.au==g) 0 s.ss=(j:Int))(hx:s.ss[j]?=some x)(hh:0≤x.holds∧x.holds<9)(qo:s.log.length≤140000000000000):
 Rc 70 #[.p b,.i g] w (.i 0) λw'=>∃lv,aC B w' b 0 ((s.setH j x (x.holds+1)).noted 72 (n4 g).ba lv)∧Fr (foot b s) w w'∧(∀k,lv.ownBlock=some k->s.lv.ownBlock=some k∨w.heap.size≤k):=by
 have HU:=Hd λW=>bf g W;have oF:=Hd λW hW=>gD B b 1 (s.setH j x (x.holds+1)) 72 (n4 g).ba W hW (by show 4≤1000;omega) qo;obtain⟨ba,hba⟩:=eX (n4 g).ba;rw[hba]at HU oF⊢;clear hba;have R1:=h.lock 1;obtain⟨w1,hw1⟩:=eX (w.setCell (Ad b 0) (.int .i32 1));rw[hw1]at R1;have hj:j<s.ss.length:=(df.1 hx).1;have HL:=lock_free Tryz.muLib (Ad b 0) w h.cells.1 (h.frozen 0);have F1:Fr (foot b s) w w1:=by rw[<-hw1];exact aV b s w _
 have HF:=Hj4 hw1 R1 F1 hx;have HS:=aF B b 1 s g w1 R1 (by omega);rw[hf]at HS;obtain⟨ao,cap,hsv⟩:=ah h.ss;have ho:=h.ss;rw[hsv]at ho;obtain⟨gg,hgg,hcap,_⟩:=aB ho (by omega);subst hgg;have hgl:=h.ss.lt gg (by rw[hsv];rfl);have t1:¬((9:Int)≤x.holds):=by omega
 have e1:IntKind.i64.wrap (x.holds+1)=x.holds+1:=aD ⟨by omega,by omega⟩;have HV:=Hd hsv;obtain⟨n,hn⟩:=eX s.ss.length;have hjn:(j:Int)<(n:Int):=by omega
 have HN:=Hd hn;clear h R1 F1 hw1 hf hx ho hsv hgl;rw[hn]at hcap hj hl;clear hn;go_enter_defers Tryz.func70,Tryz.ntmps70;go_wp2_with (first
  |(go_at_call 50;refine HL.mono ?_;rintro e w' ⟨rfl,hw'⟩;rw[HF.o.1]at hw';have hw':=hw'.symm;subst hw')
  |(go_at_call 53;refine HS.mono ?_;rintro e w2 ⟨rfl,hfr⟩;have HR2:=Hj2 (HF.o.2.1.aA hfr) (HF.o.2.2.1.trans hfr (by simp));have c4:w2.cell? (Ad b 4)=some (.slice (some (Ad gg 0)) n cap):=by rw[<-HN.o,<-HV.o];exact HR2.o.1.cells.2.2.2.1
    have d2:w2.cell? (Ad gg (j*4+2))=some (.i x.holds):=by
     have h1:=HR2.o.1.ss;rw[HV.o,HN.o]at h1;obtain⟨g',e',_,hc⟩:=aB h1 (by omega);have:g'=gg:=by simpa using e'.symm
     subst this;rw[hc _ (by omega)];have h2:=(iW s.ss j (by rw[HN.o];exact hj)).2.2.1;rw[h2];have h3:=HF.o.2.2.2;rw[dp (by rw[HN.o];exact hj)]at h3;simp at h3;rw[h3]
    have z2:w2.frozen? (Ad gg (j*4+2))=false:=by obtain⟨_,cur,h1⟩:=av HR2.o.1.ss (k:=gg) (by rw[HV.o];rfl);exact ay h1 _
    have HR3:Hid (aC B (w2.setCell (Ad gg (j*4+2)) (.i (x.holds+1))) b 1 (s.setH j x (x.holds+1))∧Fr (foot b s) w (w2.setCell (Ad gg (j*4+2)) (.i (x.holds+1)))):=⟨HR2.o.1.setH HF.o.2.2.2 _ HV.o,HR2.o.2.setCell _ (Or.inl (by simp[foot,HV.o,Value.ownBlock]))⟩;clear hfr)
  |(go_at_call 110;refine(HU.o _).mono ?_;rintro e w5 ⟨rfl,f5⟩;have mZ:Hid (aC B w5 b 1 (s.setH j x (x.holds+1))∧Fr (foot b s) w w5):=⟨HR3.o.1.aA f5,HR3.o.2.trans f5 (by simp)⟩;clear f5)
  |(go_at_call 113;refine(oF.o _ mZ.o.1).mono ?_;rintro e w6 ⟨rfl,lv,r6,f6,a6⟩;have dJ:Hid (aC B w6 b 1 ((s.setH j x (x.holds+1)).noted 72 ba lv)∧Fr (foot b s) w w6∧(∀k,lv.ownBlock=some k->s.lv.ownBlock=some k∨w.heap.size≤k)):=⟨r6,mZ.o.2.trans f6 (λk hk=>Or.inl hk),λk hk=>(a6 k hk).imp_right (λh=>eJ mZ.o.2.size h)⟩;clear r6 f6 a6))
 refine leaves_cons (f:=51) (args:=#[.p b]) (by simp) (by simp[go_sem]) ?_;refine(eK Tryz.muLib (Ad b 0) .returning _ dJ.o.1.cells.1 (dJ.o.1.frozen 0)).mono ?_;rintro e u' w'' ⟨rfl,rfl,rfl⟩;exact⟨_,results_tmp rfl _ _ _,rfl,lv,dJ.o.1.lock 0,dJ.o.2.1.setCell _ (Or.inl (by simp[foot])),dJ.o.2.2⟩
theorem Ae(B b:Nat)(s:aK)(g:Int)(j:Nat)(x:Sn)(w:World)(h:aC B w b 0 s)(hl:s.ss.length≤12)(hf:fi (λy:Sn=>y.au==g) 0 s.ss=(j:Int))(hx:s.ss[j]?=some x)(hh:0<x.holds∧x.holds≤9)(qo:s.log.length≤140000000000000):
 Rc 72 #[.p b,.i g] w (.i 0) λw'=>∃lv,aC B w' b 0 ((s.setH j x (x.holds-1)).noted 82 (n4 g).ba lv)∧Fr (foot b s) w w'∧(∀k,lv.ownBlock=some k->s.lv.ownBlock=some k∨w.heap.size≤k):=by
 have HU:=Hd λW=>bf g W;have oF:=Hd λW hW=>gD B b 1 (s.setH j x (x.holds-1)) 82 (n4 g).ba W hW (by show 4≤1000;omega) qo;obtain⟨ba,hba⟩:=eX (n4 g).ba;rw[hba]at HU oF⊢;clear hba;have R1:=h.lock 1;obtain⟨w1,hw1⟩:=eX (w.setCell (Ad b 0) (.int .i32 1));rw[hw1]at R1;have hj:j<s.ss.length:=(df.1 hx).1;have HL:=lock_free Tryz.muLib (Ad b 0) w h.cells.1 (h.frozen 0);have F1:Fr (foot b s) w w1:=by rw[<-hw1];exact aV b s w _
 have HF:=Hj4 hw1 R1 F1 hx;have HS:=aF B b 1 s g w1 R1 (by omega);rw[hf]at HS;obtain⟨ao,cap,hsv⟩:=ah h.ss;have ho:=h.ss;rw[hsv]at ho;obtain⟨gg,hgg,hcap,_⟩:=aB ho (by omega);subst hgg;have hgl:=h.ss.lt gg (by rw[hsv];rfl);have t1:(x.holds==0)=false:=by simp;omega
 have e1:IntKind.i64.wrap (x.holds-1)=x.holds-1:=aD ⟨by omega,by omega⟩;have HV:=Hd hsv;obtain⟨n,hn⟩:=eX s.ss.length;have hjn:(j:Int)<(n:Int):=by omega
 have HN:=Hd hn;clear h R1 F1 hw1 hf hx ho hsv hgl;rw[hn]at hcap hj hl;clear hn;go_enter_defers Tryz.func72,Tryz.ntmps72;go_wp2_with (first
  |(go_at_call 50;refine HL.mono ?_;rintro e w' ⟨rfl,hw'⟩;rw[HF.o.1]at hw';have hw':=hw'.symm;subst hw')
  |(go_at_call 53;refine HS.mono ?_;rintro e w2 ⟨rfl,hfr⟩;have HR2:=Hj2 (HF.o.2.1.aA hfr) (HF.o.2.2.1.trans hfr (by simp));have c4:w2.cell? (Ad b 4)=some (.slice (some (Ad gg 0)) n cap):=by rw[<-HN.o,<-HV.o];exact HR2.o.1.cells.2.2.2.1
    have d2:w2.cell? (Ad gg (j*4+2))=some (.i x.holds):=by
     have h1:=HR2.o.1.ss;rw[HV.o,HN.o]at h1;obtain⟨g',e',_,hc⟩:=aB h1 (by omega);have:g'=gg:=by simpa using e'.symm
     subst this;rw[hc _ (by omega)];have h2:=(iW s.ss j (by rw[HN.o];exact hj)).2.2.1;rw[h2];have h3:=HF.o.2.2.2;rw[dp (by rw[HN.o];exact hj)]at h3;simp at h3;rw[h3]
    have z2:w2.frozen? (Ad gg (j*4+2))=false:=by obtain⟨_,cur,h1⟩:=av HR2.o.1.ss (k:=gg) (by rw[HV.o];rfl);exact ay h1 _
    have HR3:Hid (aC B (w2.setCell (Ad gg (j*4+2)) (.i (x.holds-1))) b 1 (s.setH j x (x.holds-1))∧Fr (foot b s) w (w2.setCell (Ad gg (j*4+2)) (.i (x.holds-1)))):=⟨HR2.o.1.setH HF.o.2.2.2 _ HV.o,HR2.o.2.setCell _ (Or.inl (by simp[foot,HV.o,Value.ownBlock]))⟩;clear hfr)
  |(go_at_call 110;refine(HU.o _).mono ?_;rintro e w5 ⟨rfl,f5⟩;have mZ:Hid (aC B w5 b 1 (s.setH j x (x.holds-1))∧Fr (foot b s) w w5):=⟨HR3.o.1.aA f5,HR3.o.2.trans f5 (by simp)⟩;clear f5)
  |(go_at_call 113;refine(oF.o _ mZ.o.1).mono ?_;rintro e w6 ⟨rfl,lv,r6,f6,a6⟩;have dJ:Hid (aC B w6 b 1 ((s.setH j x (x.holds-1)).noted 82 ba lv)∧Fr (foot b s) w w6∧(∀k,lv.ownBlock=some k->s.lv.ownBlock=some k∨w.heap.size≤k)):=⟨r6,mZ.o.2.trans f6 (λk hk=>Or.inl hk),λk hk=>(a6 k hk).imp_right (λh=>eJ mZ.o.2.size h)⟩;clear r6 f6 a6))
 refine leaves_cons (f:=51) (args:=#[.p b]) (by simp) (by simp[go_sem]) ?_;refine(eK Tryz.muLib (Ad b 0) .returning _ dJ.o.1.cells.1 (dJ.o.1.frozen 0)).mono ?_;rintro e u' w'' ⟨rfl,rfl,rfl⟩;exact⟨_,results_tmp rfl _ _ _,rfl,lv,dJ.o.1.lock 0,dJ.o.2.1.setCell _ (Or.inl (by simp[foot])),dJ.o.2.2⟩
theorem xW(B b:Nat)(s:aK)(g:Int)(j:Nat)(x:Sn)(w:World)(h:aC B w b 0 s)(hl:s.ss.length≤12)(hf:fi (λy:Sn=>y.au==g) 0 s.ss=(j:Int))(hx:s.ss[j]?=some x)(hh:x.holds=0):
 Rc 72 #[.p b,.i g] w (.i 1) λw'=>aC B w' b 0 s∧Fr (foot b s) w w':=by
 have R1:=h.lock 1;obtain⟨w1,hw1⟩:=eX (w.setCell (Ad b 0) (.int .i32 1));rw[hw1]at R1;have hj:j<s.ss.length:=(df.1 hx).1;have HL:=lock_free Tryz.muLib (Ad b 0) w h.cells.1 (h.frozen 0);have F1:Fr (foot b s) w w1:=by rw[<-hw1];exact aV b s w _
 have HF:=Hj4 hw1 R1 F1 hx;have HS:=aF B b 1 s g w1 R1 (by omega);rw[hf]at HS;obtain⟨ao,cap,hsv⟩:=ah h.ss;have ho:=h.ss;rw[hsv]at ho;obtain⟨gg,hgg,hcap,_⟩:=aB ho (by omega);subst hgg;have hgl:=h.ss.lt gg (by rw[hsv];rfl);have t1:(x.holds==0)=true:=by simp[hh]
 have HX:=Hd hh;have HV:=Hd hsv;obtain⟨n,hn⟩:=eX s.ss.length;have hjn:(j:Int)<(n:Int):=by omega
 have HN:=Hd hn;clear h R1 F1 hw1 hf hx ho hsv hgl;rw[hn]at hcap hj hl;clear hn;go_enter_defers Tryz.func72,Tryz.ntmps72;go_wp2_with (first
  |(go_at_call 50;refine HL.mono ?_;rintro e w' ⟨rfl,hw'⟩;rw[HF.o.1]at hw';have hw':=hw'.symm;subst hw')
  |(go_at_call 53;refine HS.mono ?_;rintro e w2 ⟨rfl,hfr⟩;have HR2:=Hj2 (HF.o.2.1.aA hfr) (HF.o.2.2.1.trans hfr (by simp));have c4:w2.cell? (Ad b 4)=some (.slice (some (Ad gg 0)) n cap):=by rw[<-HN.o,<-HV.o];exact HR2.o.1.cells.2.2.2.1
    have d2:w2.cell? (Ad gg (j*4+2))=some (.i x.holds):=by
     have h1:=HR2.o.1.ss;rw[HV.o,HN.o]at h1;obtain⟨g',e',_,hc⟩:=aB h1 (by omega);have:g'=gg:=by simpa using e'.symm
     subst this;rw[hc _ (by omega)];have h2:=(iW s.ss j (by rw[HN.o];exact hj)).2.2.1;rw[h2];have h3:=HF.o.2.2.2;rw[dp (by rw[HN.o];exact hj)]at h3;simp at h3;rw[h3]
    clear hfr))
 refine leaves_cons (f:=51) (args:=#[.p b]) (by simp) (by simp[go_sem]) ?_;refine(eK Tryz.muLib (Ad b 0) .returning _ HR2.o.1.cells.1 (HR2.o.1.frozen 0)).mono ?_;rintro e u' w'' ⟨rfl,rfl,rfl⟩;exact⟨_,results_tmp rfl _ _ _,rfl,HR2.o.1.lock 0,HR2.o.2.setCell _ (Or.inl (by simp[foot]))⟩
def bV(l:List Int):List Value:=l.map (Value.int .i64)
theorem BZ(l:List Int):(bV l).length=l.length:=by simp[bV]
def gH(l:List (Int×Int))(k:Nat):List Int:=(l.take k).map Prod.fst++List.replicate (l.length-k) 0
theorem uF(l:List (Int×Int))(k:Nat)(h:k≤l.length):(gH l k).length=l.length:=by simp[gH];omega
theorem uG(l:List (Int×Int))(k:Nat)(h:k<l.length):(gH l k).set k l[k].1=gH l (k+1):=by unfold gH;rw[fl _ _ (by simp;omega),eI,eM,fN (Nat.le_of_lt h),Nat.sub_self,show l.length-k=(l.length-(k+1))+1 by omega,List.replicate_succ,List.set_cons_zero,ew h,fj,jj];rfl
theorem uH(l:List (Int×Int)):gH l l.length=l.map Prod.fst:=by simp[gH]
theorem rD(l:List (Int×Int)):(madeCells (Value.i 0).cells (l.length*1)).toList=bV (gH l 0):=by
 apply List.ext_getElem
 .simp[madeCells,bV,gH]
 intro i h1 h2;simp[madeCells,bV,gH,Value.cells,Nat.mod_one]
theorem Ca(l:List Int)(k:Nat)(z:Int):(bV l).set k (.i z)=bV (l.set k z):=by simp[bV,List.map_set]
theorem info3:(Tryz.prog.info? 3).map (λi=>(i.zero,i.size,i.bytes))=some (some (.i 0),1,8):=by kernel_rfl
theorem D6(B b:Nat)(s:aK)(w:World)(h:aC B w b 0 s)(hl:s.ms.length≤12):
 Cl 25 #[.p b] w λe w'=>∃gg,e=.returned (.slice (some (Ad gg 0)) s.ms.length s.ms.length)∧w.heap.size≤gg∧w'.heap[gg]?=some (.cells (bV (s.ms.map Prod.fst)).toArray 3 (0,0))∧aC B w' b 0 s∧Fr (foot b s) w w':=by
 obtain⟨i0,hi,hz0,hz1,hz2⟩:=info_parts info3;have R1:=h.lock 1;obtain⟨w1,hw1⟩:=eX (w.setCell (Ad b 0) (.int .i32 1));rw[hw1]at R1;have HL:=lock_free Tryz.muLib (Ad b 0) w h.cells.1 (h.frozen 0);have F1:Fr (foot b s) w w1:=by rw[<-hw1];exact aV b s w _
 have hz:w1.heap.size=w.heap.size:=by rw[<-hw1];simp
 have HF:=Hj4 hw1 R1 F1 hz;obtain⟨ao,cap,hsv⟩:=ah h.ms;have c4:w1.cell? (Ad b 6)=some (.slice ao s.ms.length cap):=by rw[<-hsv];exact R1.cells.2.2.2.2.2.1
 have lb:=dm _ _ c4;obtain⟨n,hn⟩:=eX s.ms.length;have HN:Hid (s.ms.length=n∧s.mv=.slice ao n cap):=⟨hn,by rw[hsv,hn]⟩;rw[hn]at c4 hl⊢;clear h R1 F1 hw1 hz hn hsv;go_enter_defers Tryz.func25,Tryz.ntmps25;go_wp2_with (first
  |(go_at_call 50;refine HL.mono ?_;rintro e w' ⟨rfl,hw'⟩;rw[HF.o.1]at hw';have hw':=hw'.symm;subst hw')
  |(at_make;refine wpList_make_full _ rfl _ _ 30 rfl w1.heap.size 3 i0 _ 1 Tryz.underlying30 hi hz0 hz1 _ _ _ _ n rfl rfl rfl rfl (by rw[hz2];omega) (by unfold maxLen;omega) (by simp) ?_;intro w2 hown2 hgrow2;have Nz:=(hgrow2.cell_far (Ad b 6) lb (by simp)).trans c4))
 have hz':=HF.o.2.2.2;have hd:w2.heap[w1.heap.size]?=some (.cells (bV (gH s.ms 0)).toArray 3 (0,0)):=by have:=gF hown2;rw[<-HN.o.1,rD s.ms]at this;exact this
 have HW:Hid (aC B w2 b 1 s∧Fr (foot b s) w w2∧w2.heap[w1.heap.size]?=some (.cells (bV (gH s.ms 0)).toArray 3 (0,0))):=⟨HF.o.2.1.aA (fR.grown hgrow2 (λk h=>by cases h)),HF.o.2.2.1.grown hgrow2 (λk h=>by cases h),hd⟩;obtain⟨gg,hgg⟩:=eX w1.heap.size;have hg0:w.heap.size≤gg:=by omega
 rw[hgg]at HW⊢;clear hown2 hgrow2 hd hz' c4 hgg;go_loopw [24] (λi wr=>∃k:Nat,k≤n∧i=.i k∧Hid (aC B wr b 1 s∧Fr (foot b s) w wr∧wr.heap[gg]?=some (.cells (bV (gH s.ms k)).toArray 3 (0,0)))) (λi _=>n-(intOf i).toNat)
 case atStart=>exact⟨0,dC _,rfl,HW⟩
 obtain⟨k,hk,rfl,HK⟩:=hrel;obtain⟨W3,hW3⟩:=eY wr;subst hW3;clear HW Nz;by_cases hlt:k<n
 .have hlt':k<s.ms.length:=by rw[HN.o.1];exact hlt
  have ho:=HK.o.1.ms;rw[HN.o.2,HN.o.1]at ho;obtain⟨sg,hao,hcap,hc⟩:=aB ho (by omega);have hs:=jE s.ms k hlt';obtain⟨x,hx⟩:=eX s.ms[k];rw[hx]at hs;subst hao;have d0:W3.cell? (Ad sg (k*2))=some (.i x.1):=by rw[hc _ (by omega)];exact hs.1
  have d1:W3.cell? (Ad sg (k*2+1))=some (.i x.2):=by rw[hc _ (by omega)];exact hs.2
  have hgl:gg<W3.heap.size:=(cY.1 HK.o.2.2).1;have hll:(bV (gH s.ms k)).length=n:=by rw[BZ,uF _ _ (by omega),HN.o.1]
  have g0:∃v,W3.cell? (Ad gg k)=some v:=by rw[cell_of HK.o.2.2,dq];exact⟨_,dp (by omega)⟩
  obtain⟨y0,g0⟩:=g0;have z0:W3.frozen? (Ad gg k)=false:=ay HK.o.2.2 _;have hltz:(k:Int)<(n:Int):=by omega
  have zT:Hid (aC B ((W3.setCell (Ad gg k) (.i x.1)).alloc (.cells #[.i x.1,.i x.2] 150)) b 1 s∧Fr (foot b s) w ((W3.setCell (Ad gg k) (.i x.1)).alloc (.cells #[.i x.1,.i x.2] 150))∧((W3.setCell (Ad gg k) (.i x.1)).alloc (.cells #[.i x.1,.i x.2] 150)).heap[gg]?=some (.cells (bV (gH s.ms (k+1))).toArray 3 (0,0))):=by
   refine⟨?_,?_,?_⟩
   .refine aC.aA (w:=W3.setCell (Ad gg k) (.i x.1)) (HK.o.1.mD (λj hj=>?_)) (fR.alloc _);have Rn:j≠gg:=by have:=(HF.o.2.1.lt j hj).2;rw[HF.o.2.2.2]at this;omega
    rw[de _ _ _ _ Rn]
   .exact(HK.o.2.1.setCell _ (Or.inr hg0)).alloc _
   rw[ei _ _ _ (by simpa using hgl)];rw[dy _ gg k _ _ _ HK.o.2.2];rw[<-uG s.ms k hlt',hx,<-Ca];simp
  clear hc hs ho HK hx hll;go_wp2;go_roundw
  case rel=>exact⟨k+1,by omega,by go_num,zT⟩
  simp[intOf];omega
 have hkk:k=n:=by omega
 subst hkk;have FW:Hid (aC B W3 b 1 s∧Fr (foot b s) w W3∧W3.heap[gg]?=some (.cells (bV (s.ms.map Prod.fst)).toArray 3 (0,0))):=by have:=HK.o;rw[<-uH,HN.o.1];exact this
 clear HK;go_wp2;refine leaves_cons (f:=51) (args:=#[.p b]) (by simp) (by simp[go_sem]) ?_;refine(eK Tryz.muLib (Ad b 0) .returning _ FW.o.1.cells.1 (FW.o.1.frozen 0)).mono ?_;rintro e u' w'' ⟨rfl,rfl,rfl⟩;refine⟨_,results_tmp rfl _ _ _,gg,rfl,hg0,?_,FW.o.1.lock 0,FW.o.2.1.setCell _ (Or.inl (by simp[foot]))⟩;rw[de _ _ _ _ (λe=>?_)]
 .exact FW.o.2.2
 have:=(HF.o.2.1.lt b (by simp[foot])).2;rw[HF.o.2.2.2]at this;simp at e;omega
theorem Cb:(Tryz.prog.info? 150).map (λi=>(i.zero,i.size,i.bytes))=some (some (.agg #[.i 0,.i 0]),2,16):=by kernel_rfl
def aK.Zf(s:aK)(g c:Int)(mv:Value):aK:={s with ms:=[(g,c)],mv:=mv}
theorem xM:∀(l:List Sn)(i:Nat),(iH l).take (i*4)=iH (l.take i)
 |[],i=>by simp[iH]
 |x::r,0=>by simp[iH]
 |x::r,i+1=>by have ih:=xM r i;rw[show(i+1)*4=i*4+4 by omega];simp only[iH,List.take_succ_cons,gC,Sn.cells,fL,fe]at ih⊢;simpa[List.take_succ_cons]using ih
theorem xO:∀(l:List Sn)(i:Nat),(iH l).drop (i*4)=iH (l.drop i)
 |[],i=>by simp[iH]
 |x::r,0=>by simp[iH]
 |x::r,i+1=>by have ih:=xO r i;rw[show(i+1)*4=i*4+4 by omega];simp only[iH,List.drop_succ_cons,gC,Sn.cells,fL,fe]at ih⊢;simpa[List.drop_succ_cons]using ih
theorem Dz(l:List Sn)(i:Nat):iH (l.eraseIdx i)=iH (l.take i)++iH (l.drop (i+1)):=by rw[iu];simp[iH]
theorem bH{g:Nat}{t:TypeId}:∀(vs:List Value)(o:Nat)(w:World)(cur:Array Value),w.heap[g]?=some (.cells cur t (0,0))->
 ∃cur',(w.setCells g o vs).heap[g]?=some (.cells cur' t (0,0))∧cur'.size=cur.size∧∀j,j<cur.size->cur'[j]?=if o≤j∧j<o+vs.length then vs[j-o]? else cur[j]?
 |[],o,w,cur,h=>⟨cur,h,rfl,λj _=>by rw[if_neg (λh=>by have:=h.2;simp at this;omega)]⟩
 |v::r,o,w,cur,h=>by
  obtain⟨cur',h1,h2,h3⟩:=bH r (o+1) (w.setCell (Ad g o) v) (cur.setIfInBounds o v) (dy w g o cur t v h);refine⟨cur',h1,by simpa using h2,λj hj=>?_⟩;rw[h3 j (by simpa using hj)];by_cases h4:o+1≤j∧j<o+1+r.length
  .rw[if_pos h4,if_pos (by simp;omega)];obtain⟨k,hk⟩:∃k,j=o+1+k:=⟨j-(o+1),by omega⟩;subst hk;rw[show o+1+k-(o+1)=k by omega,show o+1+k-o=k+1 by omega];simp
  rw[if_neg h4];by_cases h5:j=o
  .subst h5;rw[if_pos (by simp)];simp[hj]
  rw[if_neg (by simp;omega)];rw[Array.getElem?_setIfInBounds_ne (by omega)]
theorem iA(g:Nat):∀(vs:List Value)(o:Nat)(w:World),w.grownBy (w.setCells g o vs) (some g)
 |[],_,w=>World.grownBy.refl _ _
 |v::r,o,w=>by have ih:=iA g r (o+1) (w.setCell (Ad g o) v);exact⟨ih.os,ih.tape,ih.output,by have:=ih.size;rw[World.size_setCell]at this;exact this,λk hk hn=>(ih.block k (by simpa using hk) hn).trans (de _ _ _ _ (by simpa using hn))⟩
def z4:List Value:=[.i 0,.i 0,.i 0,.i 0]
theorem DC(w:World)(ty:TypeId)(g o c:Nat)(hc:∀j,j<4->(w.cell? (Ad g (o+j))).isSome=true)(hf:∀j,j<4->w.frozen? (Ad g (o+j))=false):
 (Builtin.clear_ #[131] ty #[.slice (some (Ad g o)) 1 c]).run Tryz.prog w=.ok (.tuple #[]) (w.setCells g o z4):=by
 have hst:=run_storeCells_cells (P:=Tryz.prog) g o z4 0 w (by simpa[z4]using hc) (by simpa[z4]using hf) (by intro v hv;simp[z4]at hv;subst hv;rfl);have hzc:(Builtin.zeroCells #[Value.i 0,.i 0,.i 0,.i 0] 1).toList=z4:=by kernel_rfl
 simp[Builtin.clear_,run_underlying Tryz.underlying131,Tryz.zeroValue138,Value.cells,hzc,hst]
theorem Ke{w:World}{B g n cap i:Nat}{l:List Sn}(hl:l.length=n)(hi:i<n)(h:w.ownsRow B 138 4 (.slice (some (Ad g 0)) n cap) n (iH l)):
 ((w.setCells g (i*4) (iH (l.drop (i+1)))).setCells g ((n-1)*4) z4).ownsRow B 138 4 (.slice (some (Ad g 0)) (n-1) cap) (n-1) (iH (l.eraseIdx i)):=by
 rcases h.2 with⟨h1,_⟩|⟨g',c,cur,h1,hb,hg,hc,hm,hs,ht⟩
 .simp at h1
 simp at h1;obtain⟨rfl,rfl⟩:=h1;obtain⟨c1,b1,s1,e1⟩:=bH (iH (l.drop (i+1))) (i*4) w cur hg;obtain⟨c2,b2,s2,e2⟩:=bH z4 ((n-1)*4) _ c1 b1;have hd:(iH (l.drop (i+1))).length=(n-(i+1))*4:=by rw[nN,gj,hl]
 refine⟨by rw[nN,gx (by omega),hl],Or.inr ⟨g,cap,c2,rfl,hb,b2,by omega,hm,by omega,?_⟩⟩;apply List.ext_getElem?;intro j;have hlen:(iH (l.eraseIdx i)).length=(n-1)*4:=by rw[nN,gx (by omega),hl]
 by_cases hj:j<(n-1)*4
 .rw[eQ hj,fw,e2 j (by omega),if_neg (by omega),e1 j (by omega),Dz];have ht1:(iH (l.take i)).length=i*4:=by rw[nN,eM,hl,fN (by omega)]
  by_cases hji:j<i*4
  .rw[if_neg (by omega),eS (by omega),<-xM,eQ hji,<-ht,eQ (by omega),fw]
  rw[if_pos (by omega),eC (by omega),ht1]
 rw[lh (by rw[eM];omega),lh (by omega)]
theorem zU(B g n cap i:Nat)(l:List Sn)(w:World)(hl:l.length=n)(hi:i<n)(hn:n≤12)(h:w.ownsRow B 138 4 (.slice (some (Ad g 0)) n cap) n (iH l)):
 Rc 188 #[.slice (some (Ad g 0)) n cap,.i i,.i (i+1:Nat)] w (.slice (some (Ad g 0)) (n-1) cap) λw'=>w'.ownsRow B 138 4 (.slice (some (Ad g 0)) (n-1) cap) (n-1) (iH (l.eraseIdx i))∧w.grownBy w' (some g):=by
 obtain⟨i0,hi0,hz0,hz1,hz2⟩:=info_parts BO;have hO:=h;rcases h.2 with⟨h1,_⟩|⟨g',c,cur,h1,hb,hg,hc,hm,hs,ht⟩
 .simp at h1
 simp at h1;obtain⟨rfl,rfl⟩:=h1;have Rq:=Hj4 hO hg hs ht;have i1:(0:Int)≤(i:Int):=Int.natCast_nonneg _;have i2:(i:Int)≤(n:Int):=by omega
 have i3:((i+1:Nat):Int)≤(n:Int):=by omega
 have i4:(n:Int)≤(cap:Int):=by omega
 have i5:((i:Int)==((i+1:Nat):Int))=false:=by simp;omega
 have i6:(i:Int)≤(cap:Int):=by omega
 obtain⟨k,hk⟩:=eX (i+1);rw[hk]at i3 i5⊢;have i7:(i:Int)≤(k:Int):=by omega
 have i8:(k:Int)≤(cap:Int):=by omega
 have i9:(0:Int)≤(k:Int):=Int.natCast_nonneg _;obtain⟨m,hm'⟩:=eX (n-k);obtain⟨news,hnw⟩:=eX (iH (l.drop k));have hnl:news.length=m*4:=by rw[<-hnw,nN,gj,hl,hm']
 have hn1:∀u∈news,u.oneCell'=true:=by intro u hu;rw[<-hnw]at hu;simp only[iH,List.mem_flatMap,Sn.cells]at hu;obtain⟨x,_,hx⟩:=hu;simp at hx;rcases hx with rfl|rfl|rfl|rfl<;>rfl
 have hsrc:∀t u,news[t]?=some u->w.cell? (Ad g (k*4+t))=some u:=by
  intro t u hu;rw[<-hnw,<-xO,List.getElem?_drop,<-ht]at hu;have hlt:k*4+t<n*4:=by have:=(df.1 hu).1;rw[eM]at this;omega
  rw[eQ hlt,fw]at hu;rw[cell_of hg];exact hu
 have hsp:∀j,j<news.length->(w.cell? (Ad g (0+i*4+j))).isSome=true∧w.frozen? (Ad g (0+i*4+j))=false:=by intro j hj;refine⟨?_,ay hg _⟩;rw[cell_of hg,ff (by omega)];rfl
 have HN:Hid (news.length=m*4∧(∀u∈news,u.oneCell'=true)∧(∀t u,news[t]?=some u->w.cell? (Ad g (k*4+t))=some u)∧(∀j,j<news.length->(w.cell? (Ad g (0+i*4+j))).isSome=true∧w.frozen? (Ad g (0+i*4+j))=false)∧i+m=n-1):=⟨hnl,hn1,hsrc,hsp,by omega⟩;clear hO h hg hs ht hnl hn1 hsrc hsp;obtain⟨p,hp⟩:=eX (n-1);have him:i+m=p:=by omega
 have hpc:¬cap=p:=by omega
 have p1:(p:Int)≤(n:Int):=by omega
 have p2:(p:Int)≤(cap:Int):=by omega
 have p3:n-p=1:=by omega
 have hO2:=Rq.o;obtain⟨W5,kJ⟩:=eX (w.drew.setCells g (i*4) news);have hb5:∃c5,W5.heap[g]?=some (.cells c5 138 (0,0))∧c5.size=cap*4:=by obtain⟨c1,b1,s1,_⟩:=bH news (i*4) w.drew cur hO2.2.1;exact⟨c1,by rw[<-kJ];exact b1,by rw[s1];exact hO2.2.2.1⟩
 obtain⟨c5,b5,s5⟩:=hb5;have hcl:∀ty,(Builtin.clear_ #[131] ty #[.slice (some (Ad g (p*4))) 1 (cap-p)]).run Tryz.prog W5=.ok (.tuple #[]) (W5.setCells g (p*4) z4):=λty=>
  DC W5 ty g (p*4) (cap-p) (λj hj=>by rw[cell_of b5,ff (by omega)];rfl) (λj _=>ay b5 _)
 have HE:Hid ((W5.setCells g (p*4) z4).ownsRow B 138 4 (.slice (some (Ad g 0)) p cap) p (iH (l.eraseIdx i))∧w.grownBy (W5.setCells g (p*4) z4) (some g)):=by have h1:=Ke (w:=w.drew) hl hi hO2.1.drew;rw[hk,hnw,kJ,hp]at h1;refine⟨h1,?_⟩;rw[<-kJ];have g1:=iA g news (i*4) w.drew;have g2:=iA g z4 (p*4) (w.drew.setCells g (i*4) news);exact⟨g2.os.trans g1.os,g2.tape.trans g1.tape,g2.output.trans g1.output,eJ g1.size g2.size,λk hk hn=>(g2.block k (hI hk g1.size) hn).trans (g1.block k hk hn)⟩
 have HP:=Hj2 hm' hp;clear hO2 hnw b5 s5 Rq hk hp;by_cases hkc:cap=k
 .subst hkc;have H0:Hid (∀t u,news[t]?=some u->False):=λt u hu=>by have h1:=HN.o.1;have h2:=(df.1 hu).1;omega
  go_enter Tryz.func188,Tryz.ntmps188;go_wp2;go_region_law
   ((refine step_append_room (by rfl) _ _ _ (by rfl) 138 i0 4 Tryz.underlying131 hi0 hz1 g 0 i _ (by rfl) (Ad g 0) m _ news (by rfl) HN.o.1 (λt u hu=>(H0.o t u hu).elim) HN.o.2.1 (by omega) HN.o.2.2.2.1 ?_))
  all_goals
   go_wp2;go_ret;exact⟨by rw[HP.o.2];rfl,by rw[HP.o.2];exact HE.o.1,HE.o.2⟩
 go_enter Tryz.func188,Tryz.ntmps188;go_wp2;go_region_law
  ((refine step_append_room (by rfl) _ _ _ (by rfl) 138 i0 4 Tryz.underlying131 hi0 hz1 g 0 i cap (by rfl) (Ad g (k*4)) m (cap-k) news (by rfl) HN.o.1 (λt u hu=>by rw[Addr.add_lit];exact HN.o.2.2.1 t u hu) HN.o.2.1 (by omega) HN.o.2.2.2.1 ?_))
 all_goals
  go_wp2;go_ret;exact⟨by rw[HP.o.2];rfl,by rw[HP.o.2];exact HE.o.1,HE.o.2⟩
def tm(zs:List Int)(i:Nat):Int:=zs[i]?.getD 0
def Bnd(zs:List Int):Prop:=∀i,i<zs.length->In64 (tm zs i)
def eU(w:World)(ao:Option Addr)(zs:List Int)(cap:Nat):Prop:=
 zs.length≤cap∧(0<zs.length->∃b off,ao=some (Ad b off)∧∀i,i<zs.length->w.cell? (Ad b (off+i))=some (.i (tm zs i)))
theorem eU.take{w:World}{ao:Option Addr}{zs:List Int}{cap:Nat}(h:eU w ao zs cap)(k:Nat)(hk:k≤zs.length):eU w ao (zs.take k) cap:=by
 have hl:(zs.take k).length=k:=by rw[eM];omega
 refine⟨by have:=h.1;omega,λh0=>?_⟩;obtain⟨b,off,e,hc⟩:=h.2 (by omega);refine⟨b,off,e,λi hi=>?_⟩;rw[hc i (by omega)];congr 2;rw[hl]at hi;simp[tm,hi]
theorem LU(ao:Option Addr)(zs:List Int)(cap:Nat)(g:Int)(w:World)(h:eU w ao zs cap)(hl:zs.length≤2000000):
 Rc 187 #[.slice ao zs.length cap,.i g] w (.i (fi (λx:Int=>g==x) 0 zs)) λw'=>w'=w:=by
 obtain⟨r,hr⟩:=eX (fi (λx:Int=>g==x) 0 zs);rw[hr];have HR:=Hd hr;have HO:=Hd h;clear hr h;go_enter Tryz.func187,Tryz.ntmps187;go_wp2;go_loop [8] (λi=>∃k:Nat,k≤zs.length∧i=.i k∧Hid (fi (λx:Int=>g==x) k (zs.drop k)=r)) (λi=>zs.length-(intOf i).toNat)
 case atStart=>exact⟨0,dC _,rfl,HR⟩
 obtain⟨k,hk,rfl,HK⟩:=hrel;clear HR;by_cases hlt:k<zs.length
 .have H:=HK.o;rw[eN hlt,fi]at H;obtain⟨rb,off,hao,hc⟩:=HO.o.2 (by omega);subst hao;have d1:=hc k hlt;have hcap:=HO.o.1;have ht:tm zs k=zs[k]:=by simp[tm,hlt]
  rw[ht]at d1;obtain⟨x,hx⟩:=eX zs[k];rw[hx]at d1 H;have hltz:(k:Int)<(zs.length:Int):=by omega
  clear HK hc hx ht;cases hp:(g==x)
  .have HH:Hid (fi (λx:Int=>g==x) (k+1) (zs.drop (k+1))=r):=by show _=_;simpa[hp]using H
   clear H;go_wp2;go_round
   case rel=>exact⟨k+1,by omega,by go_num,HH⟩
   simp[intOf];omega
  have HH:Hid ((k:Int)=r):=by show _=_;simpa[hp]using H
  clear H;go_wp2;go_ret;exact⟨dz HH.o,rfl⟩
 have hkk:k=zs.length:=by omega
 have HH:Hid ((-1:Int)=r):=by have:=HK.o;rw[hkk]at this;show _=_;simpa[fi]using this
 clear HK;subst hkk;go_wp2;go_ret;exact⟨dz HH.o,rfl⟩
theorem qX{α:Type}(p:α->Bool)(l:List α):decide (0≤fi p 0 l)=l.any p:=by
 by_cases h:∃x∈l,p x=true
 .obtain⟨j,hj,e,_⟩:=dx l 0 h;rw[e,fW.2 h];simp
 rw[gB l 0 (λx hx=>by cases hp:p x;rfl;exact absurd ⟨x,hx,hp⟩ h)];have:l.any p=false:=by rw[gR];intro x hx hp;exact h ⟨x,hx,hp⟩
 rw[this];decide
theorem qV(ao:Option Addr)(zs:List Int)(cap:Nat)(g:Int)(w:World)(h:eU w ao zs cap)(hl:zs.length≤2000000):
 Rc 158 #[.slice ao zs.length cap,.i g] w (.bool (zs.any λx=>g==x)) λw'=>w'=w:=by
 have H:=LU ao zs cap g w h hl;have hd:=qX (λx:Int=>g==x) zs;rw[<-hd];obtain⟨r,hr⟩:=eX (fi (λx:Int=>g==x) 0 zs);rw[hr]at H⊢;clear h hd hr;go_enter Tryz.func158,Tryz.ntmps158;go_wp2_with (go_at_call 187;refine H.mono ?_;rintro e w' ⟨rfl,hw'⟩;subst w');go_ret;exact⟨nM (by simp),rfl⟩
theorem aC.drop{B:Nat}{w:World}{b:Nat}{q:Int}{s:aK}(h:aC B w b q s){g i:Int}(hg:In64 g)(hi:In64 i):
 ∃w',(∀ty,(Builtin.delete_ #[132,163] ty #[.map (some s.mb),.agg #[.i g,.i i]]).run Tryz.prog w=.ok (.tuple #[]) w')∧aC B w' b q {s with th:=λg' i'=>if g'=g∧i'=i then Ct.zero else s.th g' i'}∧w.grownBy w' (some s.mb):=by
 obtain⟨a1,a2,a3,a4,a5,a6⟩:=h.apart;obtain⟨D,hD,hr⟩:=h.th;obtain⟨es,clock,hb,F,hs,rfl⟩:=hD;obtain⟨w',h1,h2,h3⟩:=World.ownsMap.drop (w:=w) (R:=RV) (H:=Value) ⟨es,clock,hb,F,hs,rfl⟩ qP Tryz.underlying132 (oJ hg hi) 0;have hgr:=h3.grown;refine⟨w',λty=>h1,⟨?_,?_,?_,⟨_,h2,?_⟩,?_,?_,h.hb,h.hvb,h.hmb⟩,hgr⟩
 .rw[hgr.block b (h.lt b (by simp[foot])).2 (by simpa using Ne.symm a2)];exact h.blk
 .rw[hgr.block s.vb (h.lt s.vb (by simp[foot])).2 (by simpa using Ne.symm a3)];exact h.aL
 .exact aj h.ss (λk hk=>hgr.block k (h.ss.lt k hk).2 (by simpa using(a4 k hk).2.2.1))
 .intro g' i' hg' hi';by_cases e:g'=g∧i'=i
  .obtain⟨rfl,rfl⟩:=e;rw[atKey_del_same];simp
  rw[atKey_del_other (λe'=>e (FN hg' hi' hg hi e'))];simp only[if_neg e];exact hr g' i' hg' hi'
 .exact aj h.ms (λk hk=>hgr.block k (h.ms.lt k hk).2 (by simpa using(a5 k hk).2.2))
 exact aj h.lg (λk hk=>hgr.block k (h.lg.lt k hk).2 (by simpa using(a6 k hk).2.2.1))
def aK.rem(s:aK)(g:Int)(j:Nat)(sv:Value)(k:Nat):aK:=
 {s with ss:=s.ss.eraseIdx j,th:=λg' i=>if g'=g∧0≤i∧i<k then Ct.zero else s.th g' i,sv:=sv}
theorem IZ(s:aK)(g:Int)(j:Nat)(sv:Value):s.rem g j sv 0={s with ss:=s.ss.eraseIdx j,sv:=sv}:=by unfold aK.rem;congr 1;funext g' i;rw[if_neg (by omega)]
theorem I4(s:aK)(g:Int)(j:Nat)(sv:Value)(k:Nat):s.rem g j sv (k+1)={s.rem g j sv k with th:=λg' i'=>if g'=g∧i'=(k:Int)then Ct.zero else(s.rem g j sv k).th g' i'}:=by
 unfold aK.rem;congr 1;funext g' i;by_cases h1:g'=g∧i=(k:Int)
 .rw[if_pos h1,if_pos (by omega)]
 rw[if_neg h1];show _=(if g'=g∧0≤i∧i<(k:Int)then Ct.zero else s.th g' i);by_cases h2:g'=g∧0≤i∧i<(k:Int)
 .rw[if_pos h2,if_pos (by omega)]
 rw[if_neg h2,if_neg (by omega)]
theorem aC.deleted{B:Nat}{w w':World}{b:Nat}{q:Int}{s:aK}(h:aC B w b q s){j gg cap:Nat}(hj:j<s.ss.length)(hsv:s.sv=.slice (some (Ad gg 0)) s.ss.length cap)(ho:w'.ownsRow B 138 4 (.slice (some (Ad gg 0)) (s.ss.length-1) cap) (s.ss.length-1) (iH (s.ss.eraseIdx j)))(hg:w.grownBy w' (some gg)):
 aC B (w'.setCell (Ad b 4) (.slice (some (Ad gg 0)) (s.ss.length-1) cap)) b q {s with ss:=s.ss.eraseIdx j,sv:=.slice (some (Ad gg 0)) (s.ss.length-1) cap}:=by
 obtain⟨a1,a2,a3,a4,a5,a6⟩:=h.apart;have hgg:s.sv.ownBlock=some gg:=by rw[hsv];rfl
 have an:=a4 gg hgg;have hb:w'.heap[b]?=some (s.blk q):=by rw[hg.block b (h.lt b (by simp[foot])).2 (by simpa using Ne.symm an.1)];exact h.blk
 refine⟨?_,?_,?_,?_,?_,?_,h.hb,h.hvb,h.hmb⟩
 .rw[dy w' b 4 _ _ _ hb];rfl
 .rw[de _ _ _ _ (by exact a1)];exact(hg.block s.vb (h.lt s.vb (by simp[foot])).2 (by simpa using Ne.symm an.2.1)).trans h.aL
 .show(w'.setCell (Ad b 4) (.slice (some (Ad gg 0)) (s.ss.length-1) cap)).ownsRow B 138 4 (.slice (some (Ad gg 0)) (s.ss.length-1) cap) (s.ss.eraseIdx j).length (iH (s.ss.eraseIdx j));rw[gx hj];exact aj ho (λk hk=>de _ _ _ _ (λe=>by
   have:gg=k:=by simpa[Value.ownBlock]using hk
   exact an.1 (by rw[this];exact e)))
 .refine h.th.of_block ?_;rw[de _ _ _ _ (by exact a2)];exact hg.block s.mb (h.lt s.mb (by simp[foot])).2 (by simpa using Ne.symm an.2.2.1)
 .refine aj h.ms (λk hk=>?_);rw[de _ _ _ _ (a5 k hk).1];exact hg.block k (h.ms.lt k hk).2 (λe=>by
   have:k=gg:=by simpa using e
   exact an.2.2.2 (by rw[<-this];exact hk))
 refine aj h.lg (λk hk=>?_);rw[de _ _ _ _ (a6 k hk).1];exact hg.block k (h.lg.lt k hk).2 (λe=>by
  have:k=gg:=by simpa using e
  exact(a6 k hk).2.2.2.1 (by rw[this];exact hgg))
theorem zY(B b:Nat)(q:Int)(s:aK)(g:Int)(j:Nat)(w:World)(h:aC B w b q s)(hl:s.ss.length≤12)(hf:fi (λy:Sn=>y.au==g) 0 s.ss=(j:Int))(hj:j<s.ss.length)(hg:In64 g)(hv:s.aL.length≤16):
 Rc 159 #[.p b,.i g] w (.tuple #[]) λw'=>∃sv,aC B w' b q (s.rem g j sv s.aL.length)∧Fr (foot b s) w w'∧sv.ownBlock=s.sv.ownBlock:=by
 have HS:=aF B b q s g w h (by omega);rw[hf]at HS;obtain⟨ao,cap,hsv⟩:=ah h.ss;have ho:=h.ss;rw[hsv]at ho;obtain⟨gg,hgg,hcap,_⟩:=aB ho (by omega);subst hgg;have HV:=Hj3 hsv h hj;obtain⟨n,hn⟩:=eX s.ss.length;have HN:=Hd hn;have HD:Hid (∀W,aC B W b q s->Rc 188 #[.slice (some (Ad gg 0)) n cap,.i j,.i ((j:Int)+1)] W (.slice (some (Ad gg 0)) (n-1) cap) λw'=>w'.ownsRow B 138 4 (.slice (some (Ad gg 0)) (n-1) cap) (n-1) (iH (s.ss.eraseIdx j))∧W.grownBy w' (some gg)):=λW hW=>by have h1:=hW.ss;rw[hsv,hn]at h1;have:=zU B gg n cap j s.ss W hn (by omega) (by omega) h1;rw[show((j+1:Nat):Int)=(j:Int)+1 by simp]at this;exact this
 have q1:IntKind.i64.wrap ((j:Int)+1)=(j:Int)+1:=aD ⟨by omega,by omega⟩;obtain⟨m,hm⟩:=eX s.aL.length;have HM:=Hd hm;rw[hm]at hv⊢;clear h hf ho hsv hm hn hl hj;go_enter Tryz.func159,Tryz.ntmps159;go_wp2_with (first
  |(go_at_call 53;refine HS.mono ?_;rintro e w2 ⟨rfl,hfr⟩;have HR2:Hid (aC B w2 b q s∧Fr (foot b s) w w2):=⟨HV.o.2.1.aA hfr,fR.trans hfr (by simp)⟩;have c4:w2.cell? (Ad b 4)=some (.slice (some (Ad gg 0)) n cap):=by rw[<-HN.o,<-HV.o.1];exact HR2.o.1.cells.2.2.2.1
    clear hfr)
  |(go_at_call 188;refine(HD.o _ HR2.o.1).mono ?_;rintro e w3 ⟨rfl,ho3,hg3⟩;have HR3:Hid (aC B (w3.setCell (Ad b 4) (.slice (some (Ad gg 0)) (n-1) cap)) b q (s.rem g j (.slice (some (Ad gg 0)) (n-1) cap) 0)∧Fr (foot b s) w (w3.setCell (Ad b 4) (.slice (some (Ad gg 0)) (n-1) cap))):=by
     refine⟨?_,(HR2.o.2.grown hg3 (λk hk=>Or.inl ?_)).setCell _ (Or.inl (by simp[foot]))⟩
     .rw[IZ];have:=HR2.o.1.deleted (j:=j) HV.o.2.2 HV.o.1 (by rw[HN.o];exact ho3) hg3;rw[HN.o]at this;exact this
     have:gg=k:=by simpa using hk
     rw[<-this];simp[foot,HV.o.1,Value.ownBlock]
    have Nz:∃v,w3.cell? (Ad b 4)=some v:=⟨_,hg3.cell c4 (by simp only[ne_eq,ip];intro e;exact(HV.o.2.1.apart.2.2.2.1 gg (by rw[HV.o.1];rfl)).1 e.symm)⟩;obtain⟨v4,Nz⟩:=Nz;have f4':w3.frozen? (Ad b 4)=false:=(hg3.frozen_far (Ad b 4) (dm _ _ c4) (by simp only[ne_eq,ip];intro e;exact(HV.o.2.1.apart.2.2.2.1 gg (by rw[HV.o.1];rfl)).1 e.symm)).trans (HR2.o.1.frozen 4);obtain⟨W9,vF⟩:=eX (w3.setCell (Ad b 4) (.slice (some (Ad gg 0)) (n-1) cap));rw[vF]at HR3;have k3:W9.cell? (Ad b 3)=some (.slice (some (Ad s.vb 0)) m m):=by rw[<-HM.o];exact HR3.o.1.cells.2.2.1
    clear ho3 hg3))
 obtain⟨sv,zR⟩:=eX (Value.slice (some (Ad gg 0)) (n-1) cap);have lu:Hid (sv.ownBlock=s.sv.ownBlock):=by rw[<-zR,HV.o.1];rfl
 rw[zR]at HR3;clear zR vF c4 Nz f4' k3;go_loopw [25] (λi wr=>∃k:Nat,k≤m∧i=.i k∧Hid (aC B wr b q (s.rem g j sv k)∧Fr (foot b s) w wr)) (λi _=>m-(intOf i).toNat)
 case atStart=>exact⟨0,dC _,rfl,HR3⟩
 obtain⟨k,hk,rfl,HK⟩:=hrel;obtain⟨W3,hW3⟩:=eY wr;subst hW3;clear HR3;by_cases hlt:k<m
 .have j5:cD W3 b 5 (.map (some s.mb)):=HK.o.1.cells.2.2.2.2.1;obtain⟨w8,Ri,Rj,Mw⟩:=HK.o.1.drop (g:=g) (i:=(k:Int)) hg ⟨by omega,by omega⟩;have hp:∀ty,(Builtin.delete_ #[132,163] ty #[.map (some s.mb),.agg #[.i g,.i k]]).run Tryz.prog W3=.ok (.tuple #[]) w8:=Ri;have zT:Hid (aC B w8 b q (s.rem g j sv (k+1))∧Fr (foot b s) w w8):=by
   refine⟨by rw[I4];exact Rj,HK.o.2.grown Mw (λx hx=>Or.inl ?_)⟩;have:s.mb=x:=by
    have e:(s.rem g j sv k).mb=x:=by simpa using hx
    exact e
   rw[<-this];simp[foot]
  have hltz:(k:Int)<(m:Int):=by omega
  clear Ri Rj Mw HK;go_wp2;go_roundw
  case rel=>exact⟨k+1,by omega,by go_num,zT⟩
  simp[intOf];omega
 have hkk:k=m:=by omega
 subst hkk;go_wp2;go_end0;exact⟨rfl,sv,HK.o.1,HK.o.2,lu.o⟩
def mE(g:Int)(x:Sn):Bool:=x.au==g
def aZ(ss:List Sn)(zs:List Int)(k:Nat):Bool:=ss.any (mE (tm zs k))&&!((zs.take k).any λx=>tm zs k==x)
def dG(ss:List Sn)(zs:List Int)(k:Nat):Bool:=ss.any λx=>mE (tm zs k) x&&decide (x.holds>0)
def left(ss:List Sn)(zs:List Int):List Sn:=ss.filter λx=>!(zs.any λz=>mE z x)
theorem uz{ss:List Sn}(hu:(ss.map Sn.au).Nodup){g:Int}{j:Nat}(hj:j<ss.length)(hg:mE g ss[j]=true)(p:Sn->Bool):(ss.any λx=>mE g x&&p x)=p ss[j]:=by
 cases hp:p ss[j]
 .rw[gR];intro x hx h;obtain⟨i,hi,rfl⟩:=List.getElem_of_mem hx;simp only[fh]at h;have e:i=j:=by
   have h1:ss[i].au=g:=by simpa[mE]using h.1
   have h2:ss[j].au=g:=by simpa[mE]using hg
   exact(List.getElem_inj (h₀:=by simpa using hi) (h₁:=by simpa using hj) hu).1 (by simp[h1,h2])
  subst e;rw[hp]at h;simp at h
 rw[fW];exact⟨ss[j],eE hj,by simp[hg,hp]⟩
theorem erase_filter:∀(l:List Sn)(g:Int)(j:Nat)(hj:j<l.length),(l.map Sn.au).Nodup->mE g l[j]=true->l.eraseIdx j=l.filter λx=>!(mE g x)
 |[],_,_,h,_,_=>by simp at h
 |x::r,g,0,_,hu,hg=>by
  simp only[List.getElem_cons_zero]at hg;simp only[List.map_cons,List.nodup_cons]at hu;have h1:x.au=g:=by simpa[mE]using hg
  rw[List.eraseIdx_cons_zero,List.filter_cons_of_neg (by simp[hg]),List.filter_eq_self.2];intro y hy;have:y.au≠g:=λe=>hu.1 (by rw[h1,<-e];exact jb hy);simp[mE,this]
 |x::r,g,j+1,hj,hu,hg=>by
  simp only[List.getElem_cons_succ]at hg;simp only[List.map_cons,List.nodup_cons]at hu;have hj':j<r.length:=by simpa using hj
  have h2:r[j].au=g:=by simpa[mE]using hg
  have h1:x.au≠g:=λe=>hu.1 (by rw[e,<-h2];exact jb (eE _));rw[List.eraseIdx_cons_succ,List.filter_cons_of_pos (by simp[mE,h1]),erase_filter r g j (by simpa using hj) hu.2 hg]
theorem DF(ss:List Sn)(zs:List Int)(k:Nat)(hk:k<zs.length):left ss (zs.take (k+1))=(left ss (zs.take k)).filter λx=>!(mE (tm zs k) x):=by
 unfold left;rw[List.filter_filter];congr 1;funext x;have ht:tm zs k=zs[k]:=by simp[tm,hk]
 rw[ew hk,List.any_append,ht];cases(zs.take k).any (λz=>mE z x)<;>simp
theorem zV{ss:List Sn}(hu:(ss.map Sn.au).Nodup)(zs:List Int):((left ss zs).map Sn.au).Nodup:=by unfold left;exact List.Nodup.sublist (List.Sublist.map _ List.filter_sublist) hu
theorem xQ{ss:List Sn}{zs:List Int}{k:Nat}(hf:aZ ss zs k=true):∃x∈left ss (zs.take k),mE (tm zs k) x=true:=by
 unfold aZ at hf;simp only[fh,kq]at hf;obtain⟨x,hx,hg⟩:=fW.1 hf.1;refine⟨x,?_,hg⟩;unfold left;rw[List.mem_filter];refine⟨hx,?_⟩;have hxg:x.au=tm zs k:=by simpa[mE]using hg
 simp only[kq,gR];intro z hz;have:=(gR.1 hf.2) z hz;simp[mE,hxg];intro e;exact this (by simp[e])
theorem lD(zs:List Int)(k:Nat)(h:k<zs.length):tm zs k=zs[k]:=by simp[tm,h]
theorem FZ(ss:List Sn):left ss []=ss:=by simp[left]
def lF(zs:List Int):cC:=zs.foldl (λa z=>a++(n4 z).ba) ⟨#[]⟩
theorem zW(zs:List Int)(k:Nat)(h:k<zs.length):lF (zs.take (k+1))=lF (zs.take k)++(n4 (tm zs k)).ba:=by unfold lF;rw[ew h,List.foldl_append,lD zs k h];rfl
theorem qR:∀(zs:List Int)(a:cC),(zs.foldl (λa z=>a++(n4 z).ba) a).size=a.size+4*zs.length
 |[],a=>by simp
 |z::r,a=>by rw[List.foldl_cons,qR r,fY];have e:(n4 z).ba.size=4:=rfl;simp only[e,il];omega
theorem DI(zs:List Int):(lF zs).size=4*zs.length:=by unfold lF;rw[qR];have e:(⟨#[]⟩:cC).size=0:=rfl;rw[e];omega
theorem xS:∀(l l':List Int),l.Nodup->(∀x∈l,x∈l')->l.length≤l'.length
 |[],_,_,_=>dC _
 |a::l,l',hn,hs=>by rw[List.nodup_cons]at hn;have ha:a∈l':=hs a List.mem_cons_self;have:=xS l (l'.erase a) hn.2 (λx hx=>(List.mem_erase_of_ne (λe:x=a=>hn.1 (by rw[<-e];exact hx))).2 (hs x (j9 _ hx)));rw[List.length_erase_of_mem ha]at this;have h0:0<l'.length:=List.length_pos_of_mem ha;rw[il];omega
theorem qU{ss:List Sn}{zs:List Int}(h:∀k,k<zs.length->aZ ss zs k=true):zs.length≤ss.length:=by
 have h1:=xS zs (ss.map Sn.au) (by
  rw[List.Nodup,List.pairwise_iff_getElem];intro i j hi hj hij e;have hf:=h j hj;unfold aZ at hf;rw[fh,kq]at hf;have h2:=gR.1 hf.2 zs[i] (List.mem_take_iff_getElem.2 ⟨i,by omega,rfl⟩);rw[lD zs j hj,e]at h2;simp at h2) (λx hx=>by
  obtain⟨k,hk,rfl⟩:=List.getElem_of_mem hx;have hf:=h k hk;unfold aZ at hf;rw[fh]at hf;obtain⟨y,hy,e⟩:=fW.1 hf.1;refine fm.2 ⟨y,hy,?_⟩;unfold mE at e;rw[lD zs k hk]at e;simpa using e)
 rwa[eI]at h1
def F6(B b:Nat)(s:aK)(w wr:World)(sk:aK)(zs:List Int):Prop:=
 aC B wr b 1 sk∧Fr (foot b s) w wr∧sk.ss=left s.ss zs∧sk.ms=s.ms∧sk.aL=s.aL∧sk.sv.ownBlock=s.sv.ownBlock∧foot b sk=foot b s∧(sk.id=s.id∧sk.came=s.came∧sk.taken=s.taken∧sk.cnt=s.cnt∧sk.log=s.log∧sk.lv=s.lv∧sk.mv=s.mv)∧(∀g i,g∉zs->sk.th g i=s.th g i)
structure vI(B b:Nat)(s:aK)(zs:List Int)(w w':World)(s':aK):Prop where
 foot:∀k∈YtjceeemlilnplaaGreatDoor.foot b s',k∈YtjceeemlilnplaaGreatDoor.foot b s∨w.heap.size≤k
 rep:aC B w' b 0 s'
 ss:s'.ss=left s.ss zs
 ms:s'.ms=s.ms
 aL:s'.aL=s.aL
 id:s'.id=s.id
 came:s'.came=s.came
 taken:s'.taken=s.taken
 cnt:s'.cnt=s.cnt
 th:∀g i,g∉zs->s'.th g i=s.th g i
 log:s'.log=s.log++(if zs=[]then[]else entry 68 (lF zs))
 mv:s'.mv=s.mv
theorem lH(B b:Nat)(s:aK)(ao:Option Addr)(zs:List Int)(cap:Nat)(w:World)(h:aC B w b 0 s)(hl:s.ss.length≤12)(hv:s.aL.length≤16)(hu:(s.ss.map Sn.au).Nodup)(hr:eU w ao zs cap)(hz:zs.length≤2000000)(hb:∀i,i<zs.length->In64 (tm zs i))(hnf:∀k off,ao=some (Ad k off)->0<zs.length->k∉foot b s)(qo:s.log.length≤140000000000000):
 Cl 120 #[.p b,.slice ao zs.length cap] w λe w'=>Fr (foot b s) w w'∧
  ((e=.returned (.i 3)∧(∃k,k<zs.length∧aZ s.ss zs k=false)∧aC B w' b 0 s)∨
   (e=.returned (.i 4)∧(∀k,k<zs.length->aZ s.ss zs k=true)∧(∃k,k<zs.length∧dG s.ss zs k=true)∧aC B w' b 0 s)∨
   (e=.returned (.i 0)∧(∀k,k<zs.length->aZ s.ss zs k=true)∧(∀k,k<zs.length->dG s.ss zs k=false)∧∃s',vI B b s zs w w' s')):=by
 have R1:=h.lock 1;obtain⟨w1,hw1⟩:=eX (w.setCell (Ad b 0) (.int .i32 1));rw[hw1]at R1;have HL:=lock_free Tryz.muLib (Ad b 0) w h.cells.1 (h.frozen 0);have F1:Fr (foot b s) w w1:=by rw[<-hw1];exact aV b s w _
 have HF:=Hj3 hw1 R1 F1;have HG:=Hj4 hl hv hu hb;have jy:Hid (∀W,Fr (foot b s) w W->eU W ao zs cap):=λW hW=>by refine⟨hr.1,λh0=>?_⟩;obtain⟨rb,off,e,hc⟩:=hr.2 h0;refine⟨rb,off,e,λi hi=>?_⟩;exact(du (hW.block rb (dm _ _ (hc i hi)) (hnf rb off e h0))).trans (hc i hi)
 have H1:=Hj2 R1 F1;have hcap:=hr.1;clear h R1 F1 hw1 hl hv hu hr hb hnf;go_enter_defers Tryz.func120,Tryz.ntmps120;go_wp2_with (first
  |(go_at_call 50;refine HL.mono ?_;rintro e w' ⟨rfl,hw'⟩;rw[HF.o.1]at hw';have hw':=hw'.symm;subst hw'))
 go_loopw [5,21] (λhd i wr=>∃(k:Nat)(f:Bool),k≤zs.length∧i=.i k∧hd=.bool f∧Hid (aC B wr b 1 s∧Fr (foot b s) w wr∧(∀j,j<k->aZ s.ss zs j=true)∧f=(List.range k).any (dG s.ss zs))) (λ_ i _=>zs.length-(intOf i).toNat)
 case atStart=>exact⟨0,false,dC _,rfl,rfl,H1.o.1,H1.o.2,λj hj=>by omega,rfl⟩
 obtain⟨k,f,hk,rfl,rfl,HK⟩:=hrel;obtain⟨W3,hW3⟩:=eY wr;subst hW3;clear H1;by_cases hlt:k<zs.length
 .obtain⟨rb,off,hao,hc⟩:=(jy.o W3 HK.o.2.1).2 (by omega);subst hao;have d1:=hc k hlt;obtain⟨g,hg⟩:=eX (tm zs k);have JI:=Hd hg;rw[hg]at d1;have hltz:(k:Int)<(zs.length:Int):=by omega
  have aaf:(k:Int)≤(cap:Int):=by omega
  have hS:=aF B b 1 s g W3 HK.o.1 (by have:=HG.o.1;omega);clear hc hg;by_cases zX:∃x∈s.ss,(x.au==g)=true
  .obtain⟨j,hj,e0,hgj⟩:=dx s.ss 0 zX;rw[e0,eV]at hS;have HC:Hid (∀W,Fr (foot b s) w W->Rc 158 #[.slice (some (Ad rb off)) k cap,.i g] W (.bool ((zs.take k).any λx=>g==x)) λw'=>w'=W):=λW hW=>by
    have hrt:=(jy.o W hW).take k hk;have hlk:(zs.take k).length=k:=by rw[eM];omega
    have:=qV (some (Ad rb off)) (zs.take k) cap g W hrt (by omega);rw[hlk]at this;exact this
   have HJ:Hid (∃hj:j<s.ss.length,mE g s.ss[j]=true):=⟨hj,hgj⟩;have j0:¬((j:Int)<0):=by omega
   clear e0 hgj hj zX;cases hdup:((zs.take k).any λx=>g==x)
   .rw[hdup]at HC;have HB:Hid (aZ s.ss zs k=true):=by show _=_;unfold aZ;rw[JI.o,hdup];obtain⟨hj,hgj⟩:=HJ.o;have:s.ss.any (mE g)=true:=fW.2 ⟨_,eE hj,hgj⟩;rw[this];rfl
    obtain⟨x,hx⟩:∃x,s.ss[j]?=some x:=⟨_,dp HJ.o.1⟩;have HX:Hid (s.ss[j]?=some x∧j<s.ss.length∧dG s.ss zs k=decide (x.holds>0)):=by obtain⟨hj,hgj⟩:=HJ.o;refine⟨hx,hj,?_⟩;unfold dG;rw[JI.o,uz HG.o.2.2.1 hj hgj (λx=>decide (x.holds>0))];rw[dp hj]at hx;simp at hx;rw[hx]
    obtain⟨Y4,nO,hsv⟩:=ah HK.o.1.ss;have hso:=HK.o.1.ss;rw[hsv]at hso;obtain⟨gg,hgg,xU,_⟩:=aB hso (by have:=HX.o.2.1;omega);subst hgg;obtain⟨n,hn⟩:=eX s.ss.length;have HV:Hid (s.sv=.slice (some (Ad gg 0)) n nO∧s.ss.length=n):=⟨by rw[hsv,hn],hn⟩;have hjn:(j:Int)<(n:Int):=by have:=HX.o.2.1;omega
    have Rs:j<n:=by omega
    rw[hn]at xU;clear hx hso hsv hn hdup;have HR3:Hid (∀W,aC B W b 1 s->W.cell? (Ad b 4)=some (.slice (some (Ad gg 0)) n nO)∧W.cell? (Ad gg (j*4+2))=some (.i x.holds)):=λW hW=>by
     refine⟨by rw[<-HV.o.1];exact hW.cells.2.2.2.1,?_⟩;have h1:=hW.ss;rw[HV.o.1,HV.o.2]at h1;obtain⟨g',e',_,hc⟩:=aB h1 (by omega);have:g'=gg:=by simpa using e'.symm
     subst this;rw[hc _ (by omega),(iW s.ss j HX.o.2.1).2.2.1];have h3:=HX.o.1;rw[dp HX.o.2.1]at h3;simp at h3;rw[h3]
    have Vn:Hid (∀W f',aC B W b 1 s->Fr (foot b s) w W->f'=(f||decide (x.holds>0))->(aC B W b 1 s∧Fr (foot b s) w W∧(∀j,j<k+1->aZ s.ss zs j=true)∧f'=(List.range (k+1)).any (dG s.ss zs))):=λW f' hW hF hf'=>by
     refine⟨hW,hF,λi hi=>?_,?_⟩
     .by_cases hik:i<k
      .exact HK.o.2.2.1 i hik
      have:i=k:=by omega
      rw[this];exact HB.o
     rw[hf',jn,List.any_append,<-HK.o.2.2.2];simp[HX.o.2.2]
    obtain⟨hd,hhd⟩:=eX x.holds;rw[hhd]at HR3 Vn;clear hhd HX;cases f
    .by_cases hpos:0<hd
     .have hp1:decide (hd>0)=true:=by simpa using hpos
      go_wp2_with (first
       |(go_at_call 53;refine hS.mono ?_;rintro e w2 ⟨rfl,hfr⟩;have HR2:=Hj2 (HK.o.1.aA hfr) (HK.o.2.1.trans hfr (by simp));have c4:=(HR3.o _ HR2.o.1).1;have d4:=(HR3.o _ HR2.o.1).2;have DJ:Hid _:=Vn.o w2 true HR2.o.1 HR2.o.2 (by rw[hp1];rfl);clear hfr)
       |(go_at_call 158;refine(HC.o _ HR2.o.2).mono ?_;rintro e w' ⟨rfl,hw'⟩;subst w'))
      go_roundw
      case rel=>exact⟨k+1,true,by omega,by go_num,by first|rfl|trivial|simp[hpos],DJ.o⟩
      simp[intOf];omega
     have hp1:decide (hd>0)=false:=by simpa using hpos
     go_wp2_with (first
      |(go_at_call 53;refine hS.mono ?_;rintro e w2 ⟨rfl,hfr⟩;have HR2:=Hj2 (HK.o.1.aA hfr) (HK.o.2.1.trans hfr (by simp));have c4:=(HR3.o _ HR2.o.1).1;have d4:=(HR3.o _ HR2.o.1).2;have DJ:Hid _:=Vn.o w2 false HR2.o.1 HR2.o.2 (by rw[hp1];rfl);clear hfr)
      |(go_at_call 158;refine(HC.o _ HR2.o.2).mono ?_;rintro e w' ⟨rfl,hw'⟩;subst w'))
     go_roundw
     case rel=>exact⟨k+1,false,by omega,by go_num,by first|rfl|trivial|simp[hpos],DJ.o⟩
     simp[intOf];omega
    go_wp2_with (first
     |(go_at_call 53;refine hS.mono ?_;rintro e w2 ⟨rfl,hfr⟩;have HR2:=Hj2 (HK.o.1.aA hfr) (HK.o.2.1.trans hfr (by simp));have DJ:Hid _:=Vn.o w2 true HR2.o.1 HR2.o.2 (by rfl);clear hfr)
     |(go_at_call 158;refine(HC.o _ HR2.o.2).mono ?_;rintro e w' ⟨rfl,hw'⟩;subst w'))
    go_roundw
    case rel=>exact⟨k+1,true,by omega,by go_num,by first|rfl|trivial,DJ.o⟩
    simp[intOf];omega
   rw[hdup]at HC;have HB:Hid (aZ s.ss zs k=false):=by show _=_;unfold aZ;rw[JI.o,hdup];simp
   clear hdup;go_wp2_with (first
    |(go_at_call 53;refine hS.mono ?_;rintro e w2 ⟨rfl,hfr⟩;have HR2:=Hj2 (HK.o.1.aA hfr) (HK.o.2.1.trans hfr (by simp));clear hfr)
    |(go_at_call 158;refine(HC.o _ HR2.o.2).mono ?_;rintro e w' ⟨rfl,hw'⟩;subst w'))
   refine leaves_cons (f:=51) (args:=#[.pointer (some ⟨b,0,none⟩)]) (by simp) (by simp[go_sem]) ?_;refine(eK Tryz.muLib (Ad b 0) .returning _ HR2.o.1.cells.1 (HR2.o.1.frozen 0)).mono ?_;rintro e u' w'' ⟨rfl,rfl,rfl⟩;exact⟨_,results_tmp rfl _ _ _,HR2.o.2.setCell _ (Or.inl (by simp[foot])),Or.inl ⟨rfl,⟨k,hlt,HB.o⟩,HR2.o.1.lock 0⟩⟩
  rw[gB s.ss 0 (λx hx=>by cases hp:(x.au==g);rfl;exact absurd ⟨x,hx,hp⟩ zX)]at hS;have HB:Hid (aZ s.ss zs k=false):=by
   show _=_;unfold aZ;rw[JI.o];have:s.ss.any (mE g)=false:=by rw[gR];intro x hx hp;exact zX ⟨x,hx,hp⟩
   rw[this];rfl
  clear zX;go_wp2_with (first
   |(go_at_call 53;refine hS.mono ?_;rintro e w2 ⟨rfl,hfr⟩;have HR2:=Hj2 (HK.o.1.aA hfr) (HK.o.2.1.trans hfr (by simp));clear hfr))
  refine leaves_cons (f:=51) (args:=#[.pointer (some ⟨b,0,none⟩)]) (by simp) (by simp[go_sem]) ?_;refine(eK Tryz.muLib (Ad b 0) .returning _ HR2.o.1.cells.1 (HR2.o.1.frozen 0)).mono ?_;rintro e u' w'' ⟨rfl,rfl,rfl⟩;exact⟨_,results_tmp rfl _ _ _,HR2.o.2.setCell _ (Or.inl (by simp[foot])),Or.inl ⟨rfl,⟨k,hlt,HB.o⟩,HR2.o.1.lock 0⟩⟩
 have hkk:k=zs.length:=by omega
 subst hkk;cases f
 .have JJ:Hid (∀k,k<zs.length->dG s.ss zs k=false):=λi hi=>by have:=HK.o.2.2.2;have h2:=gR.1 this.symm i (by simpa using hi);simpa using h2
  have F7:Hid (F6 B b s w W3 s (zs.take 0)):=⟨HK.o.1,HK.o.2.1,(FZ _).symm,rfl,rfl,rfl,rfl,⟨rfl,rfl,rfl,rfl,rfl,rfl,rfl⟩,λ_ _ _=>rfl⟩;have nP:=Hd HK.o.2.2.1;have aag:zs.length≤20:=by have h8:=qU nP.o;have h9:=HG.o.1;omega
  clear HK;go_wp2;go_loopw [9,55] (λtl i wr=>∃(m:Nat)(sk:aK)(t:cC),m≤zs.length∧i=.i m∧tl=.string t∧t.size=4*m∧Hid (F6 B b s w wr sk (zs.take m)∧t=lF (zs.take m))) (λ_ i _=>zs.length-(intOf i).toNat)
  case atStart=>exact⟨0,s,⟨#[]⟩,dC _,rfl,rfl,rfl,F7.o,rfl⟩
  obtain⟨m,sk,t,hm,rfl,rfl,ht,HM⟩:=hrel;obtain⟨W6,lI⟩:=eY wr;subst lI;clear F7;by_cases hlm:m<zs.length
  .obtain⟨rb,off,hao,hc⟩:=(jy.o W6 HM.o.1.2.1).2 (by omega);subst hao;have d1:=hc m hlm;obtain⟨g,hg⟩:=eX (tm zs m);have hin:=HG.o.2.2.2 m hlm;obtain⟨r6,f6,e6,m6,v6,o6,t6,_,_⟩:=HM.o.1;have hex:=xQ (nP.o m hlm);rw[<-e6]at hex;obtain⟨j,hj,ej,hgj⟩:=dx sk.ss 0 hex;rw[eV]at ej;have hlen:sk.ss.length≤12:=by rw[e6];exact eJ (List.length_filter_le _ _) HG.o.1
   have hR:=zY B b 1 sk (tm zs m) j W6 r6 hlen ej hj hin (by rw[v6];exact HG.o.2.1);have hnd:(sk.ss.map Sn.au).Nodup:=by rw[e6];exact zV HG.o.2.2.1 _
   have her:=erase_filter sk.ss (tm zs m) j hj hnd hgj;have HE:Hid (sk.ss.eraseIdx j=left s.ss (zs.take (m+1))):=by show _=_;rw[her,DF s.ss zs m hlm,e6]
   rw[hg]at d1 hR;have HU:=bf g;have Rt:Hid (lF (zs.take (m+1))=t++(n4 g).ba):=by show _=_;rw[zW zs m hlm,hg,HM.o.2]
   have Y5:(n4 g).ba.size=4:=rfl;obtain⟨ba,hba⟩:=eX (n4 g).ba;rw[hba]at HU Rt Y5;have V8:=Hd HU;have HGm:=Hd hg;clear HU hba hg;have hltz:(m:Int)<(zs.length:Int):=by omega
   clear hc hex ej hj hgj hnd her hin hlen r6 f6 e6 m6 v6 o6 t6;go_wp2_with (first
    |(go_at_call 159;refine hR.mono ?_;rintro e w7 ⟨rfl,Y6,r7,f7,o7⟩;have H7:Hid (F6 B b s w w7 (sk.rem g j Y6 sk.aL.length) (zs.take (m+1))):=by
       obtain⟨r6,f6,e6,m6,v6,o6,t6,k6,h6⟩:=HM.o.1;refine⟨r7,f6.trans f7 (λx hx=>Or.inl (by rw[<-t6];exact hx)),HE.o,m6,v6,o7.trans o6,?_,k6,λg' i' hg'=>?_⟩
       .rw[<-t6];simp only[foot,aK.rem,o7]
       rw[ew hlm,dT]at hg';have hne:¬g'=g:=λe=>hg' (Or.inr (by rw[e,<-HGm.o,lD zs m hlm];simp));simp only[aK.rem];rw[if_neg (λh=>hne h.1)];exact h6 g' i' (λh=>hg' (Or.inl h))
      clear r7 f7 o7)
    |(go_at_call 110;refine(V8.o _).mono ?_;rintro e w8 ⟨rfl,f8⟩;have H8:Hid (F6 B b s w w8 (sk.rem g j Y6 sk.aL.length) (zs.take (m+1))):=by obtain⟨r6,f6,rest⟩:=H7.o;exact⟨r6.aA f8,f6.trans f8 (by simp),rest⟩
      clear f8))
   go_roundw
   case rel=>exact⟨m+1,_,t++ba,by omega,by go_num,rfl,by rw[fY,ht,Y5];omega,H8.o,Rt.o.symm⟩
   simp[intOf];omega
  have hmm:m=zs.length:=by omega
  subst hmm;have hM:=HM.o.1;rw[kf]at hM;have hT:=HM.o.2;rw[kf]at hT;have H6:=Hj2 hM hT;clear hM hT HM;by_cases hz0:zs.length=0
  .have hzn:zs=[]:=ie hz0;have htn:t=⟨#[]⟩:=by have:=H6.o.2;rw[hzn]at this;exact this
   subst htn;go_wp2;refine leaves_cons (f:=51) (args:=#[.pointer (some ⟨b,0,none⟩)]) (by simp) (by simp[go_sem]) ?_;obtain⟨r6,f6,e6,m6,v6,o6,t6,k6,h6⟩:=H6.o.1;refine(eK Tryz.muLib (Ad b 0) .returning _ r6.cells.1 (r6.frozen 0)).mono ?_;rintro e u' w'' ⟨rfl,rfl,rfl⟩;exact⟨_,results_tmp rfl _ _ _,f6.setCell _ (Or.inl (by simp[foot])),Or.inr (Or.inr ⟨rfl,nP.o,JJ.o,sk,⟨λk hk=>Or.inl (by rw[<-t6];exact hk),r6.lock 0,e6,m6,v6,k6.1,k6.2.1,k6.2.2.1,k6.2.2.2.1,h6,by rw[k6.2.2.2.2.1,if_pos hzn];simp,k6.2.2.2.2.2.2⟩⟩)⟩
  have oF:=Hd (gD B b 1 sk 68 t W6 H6.o.1.1 (by omega) (by rw[H6.o.1.2.2.2.2.2.2.2.1.2.2.2.2.1];exact qo));have hte:t.toList.isEmpty=false:=by rw[ByteArray.toList_eq,List.isEmpty_eq_false_iff];intro e;have e2:t.data.toList.length=t.size:=fk;rw[e,ht]at e2;simp at e2;omega
  go_wp2_with (go_at_call 113;refine oF.o.mono ?_;rintro e w9 ⟨rfl,lv,r9,f9,a9⟩;have H9:=Hj3 r9 f9 a9;clear r9 f9 a9);refine leaves_cons (f:=51) (args:=#[.pointer (some ⟨b,0,none⟩)]) (by simp) (by simp[go_sem]) ?_;obtain⟨r6,f6,e6,m6,v6,o6,t6,k6,h6⟩:=H6.o.1;refine(eK Tryz.muLib (Ad b 0) .returning _ H9.o.1.cells.1 (H9.o.1.frozen 0)).mono ?_;rintro e u' w'' ⟨rfl,rfl,rfl⟩;have f9:=f6.trans H9.o.2.1 (λk hk=>Or.inl (by rw[<-t6];exact hk));refine⟨_,results_tmp rfl _ _ _,f9.setCell _ (Or.inl (by simp[foot])),Or.inr (Or.inr ⟨rfl,nP.o,JJ.o,sk.noted 68 t lv,⟨λk hk=>?_,H9.o.1.lock 0,e6,m6,v6,k6.1,k6.2.1,k6.2.2.1,k6.2.2.2.1,h6,?_,k6.2.2.2.2.2.2⟩⟩)⟩
  .rw[<-t6];simp only[foot,aK.noted,dT,ek,fy,or_false,gd]at hk⊢;rcases hk with h1|h1
   .exact Or.inl (Or.inl h1)
   rcases H9.o.2.2 k h1 with h2|h2
   .exact Or.inl (Or.inr h2)
   exact Or.inr (eJ f6.size h2)
  rw[if_neg (λe=>hz0 (by rw[e];rfl))];simp only[aK.noted];rw[k6.2.2.2.2.1,H6.o.2]
 have V9:Hid (∃k,k<zs.length∧dG s.ss zs k=true):=by have:=HK.o.2.2.2;obtain⟨i,hi,h2⟩:=fW.1 this.symm;exact⟨i,by simpa using hi,h2⟩
 go_wp2;refine leaves_cons (f:=51) (args:=#[.pointer (some ⟨b,0,none⟩)]) (by simp) (by simp[go_sem]) ?_;refine(eK Tryz.muLib (Ad b 0) .returning _ HK.o.1.cells.1 (HK.o.1.frozen 0)).mono ?_;rintro e u' w'' ⟨rfl,rfl,rfl⟩;exact⟨_,results_tmp rfl _ _ _,HK.o.2.1.setCell _ (Or.inl (by simp[foot])),Or.inr (Or.inl ⟨rfl,HK.o.2.2.1,V9.o,HK.o.1.lock 0⟩)⟩
theorem jo:∀(l:List (Int×Int))(i:Nat),(cB l).take (i*2)=cB (l.take i)
 |[],i=>by simp[cB]
 |x::r,0=>by simp[cB]
 |x::r,i+1=>by have ih:=jo r i;rw[show(i+1)*2=i*2+2 by omega];simp only[cB,List.take_succ_cons,gC,dZ,fL,fe]at ih⊢;simpa[List.take_succ_cons]using ih
theorem om:∀(l:List (Int×Int))(i:Nat),(cB l).drop (i*2)=cB (l.drop i)
 |[],i=>by simp[cB]
 |x::r,0=>by simp[cB]
 |x::r,i+1=>by have ih:=om r i;rw[show(i+1)*2=i*2+2 by omega];simp only[cB,List.drop_succ_cons,gC,dZ,fL,fe]at ih⊢;simpa[List.drop_succ_cons]using ih
theorem vo(l:List (Int×Int))(i:Nat):cB (l.eraseIdx i)=cB (l.take i)++cB (l.drop (i+1)):=by rw[iu];simp[cB]
def z2:List Value:=[.i 0,.i 0]
theorem BN(w:World)(ty:TypeId)(g o c:Nat)(hc:∀j,j<2->(w.cell? (Ad g (o+j))).isSome=true)(hf:∀j,j<2->w.frozen? (Ad g (o+j))=false):
 (Builtin.clear_ #[133] ty #[.slice (some (Ad g o)) 1 c]).run Tryz.prog w=.ok (.tuple #[]) (w.setCells g o z2):=by
 have hst:=run_storeCells_cells (P:=Tryz.prog) g o z2 0 w (by simpa[z2]using hc) (by simpa[z2]using hf) (by intro v hv;simp[z2]at hv;subst hv;rfl);have hzc:(Builtin.zeroCells #[Value.i 0,.i 0] 1).toList=z2:=by kernel_rfl
 simp[Builtin.clear_,run_underlying Tryz.underlying133,Tryz.zeroValue150,Value.cells,hzc,hst]
theorem JH{w:World}{B g n cap i:Nat}{l:List (Int×Int)}(hl:l.length=n)(hi:i<n)(h:w.ownsRow B 150 2 (.slice (some (Ad g 0)) n cap) n (cB l)):
 ((w.setCells g (i*2) (cB (l.drop (i+1)))).setCells g ((n-1)*2) z2).ownsRow B 150 2 (.slice (some (Ad g 0)) (n-1) cap) (n-1) (cB (l.eraseIdx i)):=by
 rcases h.2 with⟨h1,_⟩|⟨g',c,cur,h1,hb,hg,hc,hm,hs,ht⟩
 .simp at h1
 simp at h1;obtain⟨rfl,rfl⟩:=h1;obtain⟨c1,b1,s1,e1⟩:=bH (cB (l.drop (i+1))) (i*2) w cur hg;obtain⟨c2,b2,s2,e2⟩:=bH z2 ((n-1)*2) _ c1 b1;have hd:(cB (l.drop (i+1))).length=(n-(i+1))*2:=by rw[dM,gj,hl]
 refine⟨by rw[dM,gx (by omega),hl],Or.inr ⟨g,cap,c2,rfl,hb,b2,by omega,hm,by omega,?_⟩⟩;apply List.ext_getElem?;intro j;have hlen:(cB (l.eraseIdx i)).length=(n-1)*2:=by rw[dM,gx (by omega),hl]
 by_cases hj:j<(n-1)*2
 .rw[eQ hj,fw,e2 j (by omega),if_neg (by omega),e1 j (by omega),vo];have ht1:(cB (l.take i)).length=i*2:=by rw[dM,eM,hl,fN (by omega)]
  by_cases hji:j<i*2
  .rw[if_neg (by omega),eS (by omega),<-jo,eQ hji,<-ht,eQ (by omega),fw]
  rw[if_pos (by omega),eC (by omega),ht1]
 rw[lh (by rw[eM];omega),lh (by omega)]
theorem zI(B g n cap i:Nat)(l:List (Int×Int))(w:World)(hl:l.length=n)(hi:i<n)(hn:n≤12)(h:w.ownsRow B 150 2 (.slice (some (Ad g 0)) n cap) n (cB l)):
 Rc 124 #[.slice (some (Ad g 0)) n cap,.i i,.i (i+1:Nat)] w (.slice (some (Ad g 0)) (n-1) cap) λw'=>w'.ownsRow B 150 2 (.slice (some (Ad g 0)) (n-1) cap) (n-1) (cB (l.eraseIdx i))∧w.grownBy w' (some g):=by
 obtain⟨i0,hi0,hz0,hz1,hz2⟩:=info_parts Cb;have hO:=h;rcases h.2 with⟨h1,_⟩|⟨g',c,cur,h1,hb,hg,hc,hm,hs,ht⟩
 .simp at h1
 simp at h1;obtain⟨rfl,rfl⟩:=h1;have Rq:=Hj4 hO hg hs ht;have i1:(0:Int)≤(i:Int):=Int.natCast_nonneg _;have i2:(i:Int)≤(n:Int):=by omega
 have i3:((i+1:Nat):Int)≤(n:Int):=by omega
 have i4:(n:Int)≤(cap:Int):=by omega
 have i5:((i:Int)==((i+1:Nat):Int))=false:=by simp;omega
 have i6:(i:Int)≤(cap:Int):=by omega
 obtain⟨k,hk⟩:=eX (i+1);rw[hk]at i3 i5⊢;have i7:(i:Int)≤(k:Int):=by omega
 have i8:(k:Int)≤(cap:Int):=by omega
 have i9:(0:Int)≤(k:Int):=Int.natCast_nonneg _;obtain⟨m,hm'⟩:=eX (n-k);obtain⟨news,hnw⟩:=eX (cB (l.drop k));have hnl:news.length=m*2:=by rw[<-hnw,dM,gj,hl,hm']
 have hn1:∀u∈news,u.oneCell'=true:=by intro u hu;rw[<-hnw]at hu;simp only[cB,List.mem_flatMap,dZ]at hu;obtain⟨x,_,hx⟩:=hu;simp at hx;rcases hx with rfl|rfl<;>rfl
 have hsrc:∀t u,news[t]?=some u->w.cell? (Ad g (k*2+t))=some u:=by
  intro t u hu;rw[<-hnw,<-om,List.getElem?_drop,<-ht]at hu;have hlt:k*2+t<n*2:=by have:=(df.1 hu).1;rw[eM]at this;omega
  rw[eQ hlt,fw]at hu;rw[cell_of hg];exact hu
 have hsp:∀j,j<news.length->(w.cell? (Ad g (0+i*2+j))).isSome=true∧w.frozen? (Ad g (0+i*2+j))=false:=by intro j hj;refine⟨?_,ay hg _⟩;rw[cell_of hg,ff (by omega)];rfl
 have HN:Hid (news.length=m*2∧(∀u∈news,u.oneCell'=true)∧(∀t u,news[t]?=some u->w.cell? (Ad g (k*2+t))=some u)∧(∀j,j<news.length->(w.cell? (Ad g (0+i*2+j))).isSome=true∧w.frozen? (Ad g (0+i*2+j))=false)∧i+m=n-1):=⟨hnl,hn1,hsrc,hsp,by omega⟩;clear hO h hg hs ht hnl hn1 hsrc hsp;obtain⟨p,hp⟩:=eX (n-1);have him:i+m=p:=by omega
 have hpc:¬cap=p:=by omega
 have p1:(p:Int)≤(n:Int):=by omega
 have p2:(p:Int)≤(cap:Int):=by omega
 have p3:n-p=1:=by omega
 have hO2:=Rq.o;obtain⟨W5,kJ⟩:=eX (w.drew.setCells g (i*2) news);have hb5:∃c5,W5.heap[g]?=some (.cells c5 150 (0,0))∧c5.size=cap*2:=by obtain⟨c1,b1,s1,_⟩:=bH news (i*2) w.drew cur hO2.2.1;exact⟨c1,by rw[<-kJ];exact b1,by rw[s1];exact hO2.2.2.1⟩
 obtain⟨c5,b5,s5⟩:=hb5;have hcl:∀ty,(Builtin.clear_ #[133] ty #[.slice (some (Ad g (p*2))) 1 (cap-p)]).run Tryz.prog W5=.ok (.tuple #[]) (W5.setCells g (p*2) z2):=λty=>
  BN W5 ty g (p*2) (cap-p) (λj hj=>by rw[cell_of b5,ff (by omega)];rfl) (λj _=>ay b5 _)
 have HE:Hid ((W5.setCells g (p*2) z2).ownsRow B 150 2 (.slice (some (Ad g 0)) p cap) p (cB (l.eraseIdx i))∧w.grownBy (W5.setCells g (p*2) z2) (some g)):=by have h1:=JH (w:=w.drew) hl hi hO2.1.drew;rw[hk,hnw,kJ,hp]at h1;refine⟨h1,?_⟩;rw[<-kJ];have g1:=iA g news (i*2) w.drew;have g2:=iA g z2 (p*2) (w.drew.setCells g (i*2) news);exact⟨g2.os.trans g1.os,g2.tape.trans g1.tape,g2.output.trans g1.output,eJ g1.size g2.size,λk hk hn=>(g2.block k (hI hk g1.size) hn).trans (g1.block k hk hn)⟩
 have HP:=Hj2 hm' hp;clear hO2 hnw b5 s5 Rq hk hp;by_cases hkc:cap=k
 .subst hkc;have H0:Hid (∀t u,news[t]?=some u->False):=λt u hu=>by have h1:=HN.o.1;have h2:=(df.1 hu).1;omega
  go_enter Tryz.func124,Tryz.ntmps124;go_wp2;go_region_law
   ((refine step_append_room (by rfl) _ _ _ (by rfl) 150 i0 2 Tryz.underlying133 hi0 hz1 g 0 i _ (by rfl) (Ad g 0) m _ news (by rfl) HN.o.1 (λt u hu=>(H0.o t u hu).elim) HN.o.2.1 (by omega) HN.o.2.2.2.1 ?_))
  all_goals
   go_wp2;go_ret;exact⟨by rw[HP.o.2];rfl,by rw[HP.o.2];exact HE.o.1,HE.o.2⟩
 go_enter Tryz.func124,Tryz.ntmps124;go_wp2;go_region_law
  ((refine step_append_room (by rfl) _ _ _ (by rfl) 150 i0 2 Tryz.underlying133 hi0 hz1 g 0 i cap (by rfl) (Ad g (k*2)) m (cap-k) news (by rfl) HN.o.1 (λt u hu=>by rw[Addr.add_lit];exact HN.o.2.2.1 t u hu) HN.o.2.1 (by omega) HN.o.2.2.2.1 ?_))
 all_goals
  go_wp2;go_ret;exact⟨by rw[HP.o.2];rfl,by rw[HP.o.2];exact HE.o.1,HE.o.2⟩
def aK.ig(s:aK)(j:Nat)(mv:Value):aK:={s with ms:=s.ms.eraseIdx j,mv:=mv}
theorem aC.unmarked{B:Nat}{w w':World}{b:Nat}{q:Int}{s:aK}(h:aC B w b q s){j gg cap:Nat}(hj:j<s.ms.length)(hmv:s.mv=.slice (some (Ad gg 0)) s.ms.length cap)(ho:w'.ownsRow B 150 2 (.slice (some (Ad gg 0)) (s.ms.length-1) cap) (s.ms.length-1) (cB (s.ms.eraseIdx j)))(hg:w.grownBy w' (some gg)):
 aC B (w'.setCell (Ad b 6) (.slice (some (Ad gg 0)) (s.ms.length-1) cap)) b q (s.ig j (.slice (some (Ad gg 0)) (s.ms.length-1) cap)):=by
 obtain⟨a1,a2,a3,a4,a5,a6⟩:=h.apart;have hgg:s.mv.ownBlock=some gg:=by rw[hmv];rfl
 have an:=a5 gg hgg;have hb:w'.heap[b]?=some (s.blk q):=by rw[hg.block b (h.lt b (by simp[foot])).2 (by simpa using Ne.symm an.1)];exact h.blk
 refine⟨?_,?_,?_,?_,?_,?_,h.hb,h.hvb,h.hmb⟩
 .rw[dy w' b 6 _ _ _ hb];rfl
 .rw[de _ _ _ _ (by exact a1)];exact(hg.block s.vb (h.lt s.vb (by simp[foot])).2 (by simpa using Ne.symm an.2.1)).trans h.aL
 .refine aj h.ss (λk hk=>?_);rw[de _ _ _ _ (a4 k hk).1];exact hg.block k (h.ss.lt k hk).2 (λe=>by
   have:k=gg:=by simpa using e
   exact(a4 k hk).2.2.2 (by rw[this];exact hgg))
 .refine h.th.of_block ?_;rw[de _ _ _ _ (by exact a2)];exact hg.block s.mb (h.lt s.mb (by simp[foot])).2 (by simpa using Ne.symm an.2.2)
 .show(w'.setCell (Ad b 6) (.slice (some (Ad gg 0)) (s.ms.length-1) cap)).ownsRow B 150 2 (.slice (some (Ad gg 0)) (s.ms.length-1) cap) (s.ms.eraseIdx j).length (cB (s.ms.eraseIdx j));rw[gx hj];exact aj ho (λk hk=>de _ _ _ _ (λe=>by
   have:gg=k:=by simpa[Value.ownBlock]using hk
   exact an.1 (by rw[this];exact e)))
 refine aj h.lg (λk hk=>?_);rw[de _ _ _ _ (a6 k hk).1];exact hg.block k (h.lg.lt k hk).2 (λe=>by
  have:k=gg:=by simpa using e
  exact(a6 k hk).2.2.2.2 (by rw[this];exact hgg))
theorem zJ{b j:Nat}{s:aK}{mv:Value}{N:Nat}(h:mv.ownBlock=s.mv.ownBlock):∀k∈foot b (s.ig j mv),k∈foot b s∨N≤k:=by intro k hk;left;simp only[foot,aK.ig,h]at hk⊢;exact hk
theorem Fu(B b:Nat)(s:aK)(g:Int)(j:Nat)(w:World)(h:aC B w b 0 s)(hl:s.ms.length≤12)(hf:fi (λy:Int×Int=>y.1==g) 0 s.ms=(j:Int))(hj:j<s.ms.length)(qo:s.log.length≤140000000000000):
 Rc 77 #[.p b,.i g] w (.i 0) λw'=>∃mv lv,aC B w' b 0 ((s.ig j mv).noted 85 (n4 g).ba lv)∧Fr (foot b s) w w'∧mv.ownBlock=s.mv.ownBlock∧(∀k,lv.ownBlock=some k->s.lv.ownBlock=some k∨w.heap.size≤k):=by
 have HU:=Hd λW=>bf g W;have oF:=Hd λW mv hW=>gD B b 1 (s.ig j mv) 85 (n4 g).ba W hW (by show 4≤1000;omega) qo;obtain⟨ba,hba⟩:=eX (n4 g).ba;rw[hba]at HU oF⊢;clear hba;have R1:=h.lock 1;obtain⟨w1,hw1⟩:=eX (w.setCell (Ad b 0) (.int .i32 1));rw[hw1]at R1;have HL:=lock_free Tryz.muLib (Ad b 0) w h.cells.1 (h.frozen 0);have F1:Fr (foot b s) w w1:=by rw[<-hw1];exact aV b s w _
 have HF:=Hj3 hw1 R1 F1;have HS:=bF B b 1 s g w1 R1 (by omega);rw[hf]at HS;obtain⟨ao,cap,hmv⟩:=ah h.ms;have ho:=h.ms;rw[hmv]at ho;obtain⟨gg,hgg,hcap,hcc⟩:=aB ho (by omega);subst hgg;have HV:=Hj3 hmv hj h;obtain⟨n,hn⟩:=eX s.ms.length;have HN:=Hd hn;have HD:Hid (∀W,aC B W b 1 s->Rc 124 #[.slice (some (Ad gg 0)) n cap,.i j,.i ((j:Int)+1)] W (.slice (some (Ad gg 0)) (n-1) cap) λw'=>w'.ownsRow B 150 2 (.slice (some (Ad gg 0)) (n-1) cap) (n-1) (cB (s.ms.eraseIdx j))∧W.grownBy w' (some gg)):=λW hW=>by have h1:=hW.ms;rw[hmv,hn]at h1;have:=zI B gg n cap j s.ms W hn (by omega) (by omega) h1;rw[show((j+1:Nat):Int)=(j:Int)+1 by simp]at this;exact this
 have q1:IntKind.i64.wrap ((j:Int)+1)=(j:Int)+1:=aD ⟨by omega,by omega⟩;have j0:¬((j:Int)<0):=by omega
 clear h R1 F1 hw1 hf ho hmv hcc hn hl hj;go_enter_defers Tryz.func77,Tryz.ntmps77;go_wp2_with (first
  |(go_at_call 50;refine HL.mono ?_;rintro e w' ⟨rfl,hw'⟩;rw[HF.o.1]at hw';have hw':=hw'.symm;subst hw')
  |(go_at_call 109;refine HS.mono ?_;rintro e w2 ⟨rfl,hfr⟩;have HR2:=Hj2 (HF.o.2.1.aA hfr) (HF.o.2.2.trans hfr (by simp));have c6:w2.cell? (Ad b 6)=some (.slice (some (Ad gg 0)) n cap):=by rw[<-HN.o,<-HV.o.1];exact HR2.o.1.cells.2.2.2.2.2.1
    clear hfr)
  |(go_at_call 124;refine(HD.o _ HR2.o.1).mono ?_;rintro e w3 ⟨rfl,ho3,hg3⟩;have hgb:b≠gg:=Ne.symm (HV.o.2.2.apart.2.2.2.2.1 gg (by rw[HV.o.1];rfl)).1;have HR3:Hid (aC B (w3.setCell (Ad b 6) (.slice (some (Ad gg 0)) (n-1) cap)) b 1 (s.ig j (.slice (some (Ad gg 0)) (n-1) cap))∧Fr (foot b s) w (w3.setCell (Ad b 6) (.slice (some (Ad gg 0)) (n-1) cap))):=by
     refine⟨?_,(HR2.o.2.grown hg3 (λk hk=>Or.inl ?_)).setCell _ (Or.inl (by simp[foot]))⟩
     .have:=HR2.o.1.unmarked (j:=j) HV.o.2.1 HV.o.1 (by rw[HN.o];exact ho3) hg3;rw[HN.o]at this;exact this
     have:gg=k:=by simpa using hk
     rw[<-this];simp[foot,HV.o.1,Value.ownBlock]
    have c6':=hg3.cell c6 (by simpa using hgb);have f6':w3.frozen? (Ad b 6)=false:=(hg3.frozen_far (Ad b 6) (dm _ _ c6) (by simpa using hgb)).trans (HR2.o.1.frozen 6);clear ho3 hg3)
  |(go_at_call 110;refine(HU.o _).mono ?_;rintro e w5 ⟨rfl,f5⟩;have mZ:=Hj2 (HR3.o.1.aA f5) (HR3.o.2.trans f5 (by simp));clear f5)
  |(go_at_call 113;refine(oF.o _ _ mZ.o.1).mono ?_;rintro e w6 ⟨rfl,lv,r6,f6,a6⟩;have dJ:Hid (aC B w6 b 1 ((s.ig j (.slice (some (Ad gg 0)) (n-1) cap)).noted 85 ba lv)∧Fr (foot b s) w w6∧(∀k,lv.ownBlock=some k->s.lv.ownBlock=some k∨w.heap.size≤k)):=⟨r6,mZ.o.2.trans f6 (zJ (by rw[HV.o.1];rfl)),λk hk=>(a6 k hk).imp_right (λh=>eJ mZ.o.2.size h)⟩;clear r6 f6 a6))
 refine leaves_cons (f:=51) (args:=#[.pointer (some ⟨b,0,none⟩)]) (by simp) (by simp[go_sem]) ?_;refine(eK Tryz.muLib (Ad b 0) .returning _ dJ.o.1.cells.1 (dJ.o.1.frozen 0)).mono ?_;rintro e u' w'' ⟨rfl,rfl,rfl⟩;exact⟨_,results_tmp rfl _ _ _,rfl,_,lv,dJ.o.1.lock 0,dJ.o.2.1.setCell _ (Or.inl (by simp[foot])),by rw[HV.o.1];rfl,dJ.o.2.2⟩
structure aS where
 au:Int
 time:Int
 holds:Int
 came:Int
 dat:List cC
 born:List Int
def bG(l:List cC):List Value:=l.map Value.string
def aT(l:List Int):List Value:=l.map (Value.int .i64)
def aS.cells(x:aS):List Value:=[.i x.au,.i x.time,.i x.holds,.i x.came]++(bG x.dat++aT x.born)
def aS.wf(x:aS):Prop:=x.dat.length=16∧x.born.length=16
def bS(l:List aS):List Value:=l.flatMap aS.cells
structure ak where
 id:Int
 blocks:Nat
 now:Int
 last:Int
 dat:List cC
 born:List Int
 sh:List aS
 ms:List (Int×Int)
 sv:Value
 mv:Value
def ak.cells(s:ak):List Value:=[.i s.id,.i s.blocks,.i s.now,.i s.last]++(bG s.dat++(aT s.born++[s.sv,s.mv]))
structure aG(B:Nat)(w:World)(b:Nat)(s:ak):Prop where
 blk:w.heap[b]?=some (.cells s.cells.toArray 146 (0,0))
 j6:s.dat.length=16
 b16:s.born.length=16
 wf:∀x∈s.sh,x.wf
 sh:w.ownsRow B 148 36 s.sv s.sh.length (bS s.sh)
 ms:w.ownsRow B 152 2 s.mv s.ms.length (cB s.ms)
 hb:B≤b
def aN(b:Nat)(s:ak):List Nat:=[b]++s.sv.ownBlock.toList++s.mv.ownBlock.toList
theorem aG.lt{B:Nat}{w:World}{b:Nat}{s:ak}(h:aG B w b s):∀k∈aN b s,B≤k∧k<w.heap.size:=by
 intro k hk;simp only[aN,dT,ek,fy,or_false,gd]at hk;rcases hk with(rfl|h1)|h1
 .exact⟨h.hb,(cY.1 h.blk).1⟩
 .exact h.sh.lt k h1
 exact h.ms.lt k h1
theorem aG.mD{B:Nat}{w w':World}{b:Nat}{s:ak}(h:aG B w b s)(he:∀k∈aN b s,w'.heap[k]?=w.heap[k]?):aG B w' b s:=by
 refine⟨?_,h.j6,h.b16,h.wf,?_,?_,h.hb⟩
 .rw[he b (by simp[aN])];exact h.blk
 .exact aj h.sh (λk hk=>he k (by simp[aN,hk]))
 exact aj h.ms (λk hk=>he k (by simp[aN,hk]))
theorem aG.kept{B:Nat}{w w':World}{b:Nat}{s:ak}{F:List Nat}(h:aG B w b s)(hf:Fr F w w')(hn:∀k∈aN b s,k∉F):aG B w' b s:=
 h.mD λk hk=>hf.block k (h.lt k hk).2 (hn k hk)
theorem aG.aA{B:Nat}{w w':World}{b:Nat}{s:ak}(h:aG B w b s)(hf:Fr [] w w'):aG B w' b s:=h.kept hf (by simp)
theorem aG.apart{B:Nat}{w:World}{b:Nat}{s:ak}(h:aG B w b s):(∀k,s.sv.ownBlock=some k->k≠b∧s.mv.ownBlock≠some k)∧(∀k,s.mv.ownBlock=some k->k≠b):=by
 have h2:=h.blk;refine⟨λk hk=>⟨λe=>?_,λe=>?_⟩,λk hk e=>?_⟩
 .obtain⟨_,cur,h4⟩:=av h.sh hk;rw[e,h2]at h4;simp at h4
 .obtain⟨_,cur,h4⟩:=av h.sh hk;obtain⟨_,cur',h5⟩:=av h.ms e;rw[h4]at h5;simp at h5
 obtain⟨_,cur,h4⟩:=av h.ms hk;rw[e,h2]at h4;simp at h4
theorem EZ(s:ak)(hd:s.dat.length=16)(k:Nat)(hk:k<16):s.cells[4+k]?=some (.t (s.dat[k]'(by omega))):=by unfold ak.cells;rw[eC (by simp),show 4+k - [Value.i s.id,.i s.blocks,.i s.now,.i s.last].length=k by simp,eS (by simp[bG,hd];exact hk)];simp[bG,hd,hk]
theorem BJ(s:ak)(hd:s.dat.length=16)(hb:s.born.length=16)(k:Nat)(hk:k<16):s.cells[20+k]?=some (.i (s.born[k]'(by omega))):=by unfold ak.cells;rw[eC (by simp;omega),show 20+k - [Value.i s.id,.i s.blocks,.i s.now,.i s.last].length=16+k by simp;omega,eC (by simp[bG,hd]),show 16+k-(bG s.dat).length=k by simp[bG,hd],eS (by simp[aT,hb];exact hk)];simp[aT,hb,hk]
theorem E5(s:ak)(hd:s.dat.length=16)(hb:s.born.length=16):s.cells[36]?=some s.sv∧s.cells[37]?=some s.mv:=by
 have e:∀j,s.cells[36+j]?=[s.sv,s.mv][j]?:=λj=>by unfold ak.cells;rw[eC (by simp;omega),show 36+j - [Value.i s.id,.i s.blocks,.i s.now,.i s.last].length=32+j by simp;omega,eC (by simp[bG,hd];omega),show 32+j-(bG s.dat).length=16+j by simp[bG,hd];omega,eC (by simp[aT,hb]),show 16+j-(aT s.born).length=j by simp[aT,hb]]
 exact⟨e 0,e 1⟩
theorem aG.cells{B:Nat}{w:World}{b:Nat}{s:ak}(h:aG B w b s):
 w.cell? (Ad b 0)=some (.i s.id)∧w.cell? (Ad b 1)=some (.i s.blocks)∧w.cell? (Ad b 2)=some (.i s.now)∧w.cell? (Ad b 3)=some (.i s.last)∧w.cell? (Ad b 36)=some s.sv∧w.cell? (Ad b 37)=some s.mv:=by
 have e:=E5 s h.j6 h.b16;refine⟨?_,?_,?_,?_,?_,?_⟩<;>rw[cell_of h.blk,dq]
 .rfl
 .rfl
 .rfl
 .rfl
 .exact e.1
 exact e.2
theorem aG.frozen{B:Nat}{w:World}{b:Nat}{s:ak}(h:aG B w b s)(j:Nat):w.frozen? (Ad b j)=false:=ay h.blk j
theorem aG.dat{B:Nat}{w:World}{b:Nat}{s:ak}(h:aG B w b s)(k:Nat)(hk:k<16):w.cell? (Ad b (4+k))=some (.t (s.dat[k]'(by rw[h.j6];exact hk))):=by rw[cell_of h.blk,dq];exact EZ s h.j6 k hk
theorem aG.BF{B:Nat}{w:World}{b:Nat}{s:ak}(h:aG B w b s)(k:Nat)(hk:k<16):w.cell? (Ad b (20+k))=some (.i (s.born[k]'(by rw[h.b16];exact hk))):=by rw[cell_of h.blk,dq];exact BJ s h.j6 h.b16 k hk
theorem mJ{α:Type}{f:α->List Value}{k:Nat}:∀(l:List α)(_:∀x∈l,(f x).length=k)(i:Nat)(h:i<l.length)(j:Nat),j<k->(l.flatMap f)[i*k+j]?=(f l[i])[j]?
 |[],_,i,h,_,_=>by simp at h
 |x::r,hf,0,_,j,hj=>by simp only[gC,Nat.zero_mul,eV,List.getElem_cons_zero];rw[eS (by rw[hf x (by simp)];exact hj)]
 |x::r,hf,i+1,h,j,hj=>by simp only[gC,List.getElem_cons_succ];rw[eC (by rw[hf x (by simp),Nat.add_mul];omega),hf x (by simp),show(i+1)*k+j-k=i*k+j by rw[Nat.add_mul];omega];exact mJ r (λy hy=>hf y (by simp[hy])) i (by simpa using h) j hj
theorem iy{x:aS}(h:x.wf):x.cells.length=36:=by simp[aS.cells,bG,aT,h.1,h.2]
theorem aG.fE{B:Nat}{w:World}{b:Nat}{s:ak}(h:aG B w b s){gg cap:Nat}(hsv:s.sv=.slice (some (Ad gg 0)) s.sh.length cap)(i:Nat)(hi:i<s.sh.length)(j:Nat)(hj:j<36):w.cell? (Ad gg (i*36+j))=(s.sh[i].cells)[j]?:=by
 have ho:=h.sh;rw[hsv]at ho;obtain⟨g',e',_,hc⟩:=aB ho (by omega);have:g'=gg:=by simpa using e'.symm
 subst this;rw[hc _ (by omega)];exact mJ s.sh (λx hx=>iy (h.wf x hx)) i hi j hj
theorem aQ(B b:Nat)(s:ak)(g:Int)(w:World)(h:aG B w b s)(hl:s.sh.length≤1000000):
 Rc 56 #[.p b,.i g] w (.i (fi (λx:aS=>x.au==g) 0 s.sh)) λw'=>w'=w:=by
 obtain⟨ao,cap,hsv⟩:=ah h.sh;obtain⟨r,hr⟩:=eX (fi (λx:aS=>x.au==g) 0 s.sh);rw[hr];have HR:=Hd hr;have HO:=Hj2 h hsv;have cZ:w.cell? (Ad b 36)=some (.slice ao s.sh.length cap):=by rw[<-hsv];exact h.cells.2.2.2.2.1
 obtain⟨n,hn⟩:=eX s.sh.length;have HN:=Hd hn;rw[hn]at cZ hl;clear hr h hsv hn;go_enter Tryz.func56,Tryz.ntmps56;go_wp2;go_loop [5] (λi=>∃k:Nat,k≤n∧i=.i k∧Hid (fi (λx:aS=>x.au==g) k (s.sh.drop k)=r)) (λi=>n-(intOf i).toNat)
 case atStart=>exact⟨0,dC _,rfl,HR⟩
 obtain⟨k,hk,rfl,HK⟩:=hrel;clear HR;by_cases hlt:k<n
 .have hlt':k<s.sh.length:=by rw[HN.o];exact hlt
  have H:=HK.o;rw[eN hlt',fi]at H;have ho:=HO.o.1.sh;rw[HO.o.2]at ho;obtain⟨gg,hgg,hcap,hcc⟩:=aB ho (by omega);subst hgg;have d0:=HO.o.1.fE HO.o.2 k hlt' 0 (by omega);obtain⟨x,hx⟩:=eX s.sh[k];rw[hx]at d0 H;have d0':cE w gg (k*36) x.au:=d0;rw[HN.o]at hcap;have hltz:(k:Int)<(n:Int):=by omega
  clear HK hx d0 ho hcc;cases hp:(x.au==g)
  .have HH:Hid (fi (λx:aS=>x.au==g) (k+1) (s.sh.drop (k+1))=r):=by show _=_;simpa[hp]using H
   clear H;go_wp2;go_round
   case rel=>exact⟨k+1,by omega,by go_num,HH⟩
   simp[intOf];omega
  have HH:Hid ((k:Int)=r):=by show _=_;simpa[hp]using H
  clear H;go_wp2;go_ret;exact⟨dz HH.o,rfl⟩
 have hkk:k=n:=by omega
 have HH:Hid ((-1:Int)=r):=by have:=HK.o;rw[hkk,<-HN.o]at this;show _=_;simpa[fi]using this
 clear HK;subst hkk;go_wp2;go_ret;exact⟨dz HH.o,rfl⟩
theorem dP(B b:Nat)(s:ak)(g:Int)(w:World)(h:aG B w b s)(hl:s.ms.length≤1000000):
 Rc 112 #[.p b,.i g] w (.i (fi (λx:Int×Int=>x.1==g) 0 s.ms)) λw'=>w'=w:=by
 obtain⟨ao,cap,hsv⟩:=ah h.ms;obtain⟨r,hr⟩:=eX (fi (λx:Int×Int=>x.1==g) 0 s.ms);rw[hr];have HR:=Hd hr;have HO:=Hj2 h hsv;have c37:w.cell? (Ad b 37)=some (.slice ao s.ms.length cap):=by rw[<-hsv];exact h.cells.2.2.2.2.2
 obtain⟨n,hn⟩:=eX s.ms.length;have HN:=Hd hn;rw[hn]at c37 hl;clear hr h hsv hn;go_enter Tryz.func112,Tryz.ntmps112;go_wp2;go_loop [5] (λi=>∃k:Nat,k≤n∧i=.i k∧Hid (fi (λx:Int×Int=>x.1==g) k (s.ms.drop k)=r)) (λi=>n-(intOf i).toNat)
 case atStart=>exact⟨0,dC _,rfl,HR⟩
 obtain⟨k,hk,rfl,HK⟩:=hrel;clear HR;by_cases hlt:k<n
 .have hlt':k<s.ms.length:=by rw[HN.o];exact hlt
  have H:=HK.o;rw[eN hlt',fi]at H;have ho:=HO.o.1.ms;rw[HO.o.2]at ho;obtain⟨gg,hgg,hcap,hcc⟩:=aB ho (by omega);subst hgg;have d0:=hcc (k*2) (by omega);rw[(jE s.ms k hlt').1]at d0;obtain⟨x,hx⟩:=eX s.ms[k];rw[hx]at d0 H;have d0':cE w gg (k*2) x.1:=d0;rw[HN.o]at hcap;have hltz:(k:Int)<(n:Int):=by omega
  clear HK hx d0 ho hcc;cases hp:(x.1==g)
  .have HH:Hid (fi (λx:Int×Int=>x.1==g) (k+1) (s.ms.drop (k+1))=r):=by show _=_;simpa[hp]using H
   clear H;go_wp2;go_round
   case rel=>exact⟨k+1,by omega,by go_num,HH⟩
   simp[intOf];omega
  have HH:Hid ((k:Int)=r):=by show _=_;simpa[hp]using H
  clear H;go_wp2;go_ret;exact⟨dz HH.o,rfl⟩
 have hkk:k=n:=by omega
 have HH:Hid ((-1:Int)=r):=by have:=HK.o;rw[hkk,<-HN.o]at this;show _=_;simpa[fi]using this
 clear HK;subst hkk;go_wp2;go_ret;exact⟨dz HH.o,rfl⟩
theorem iB(B b:Nat)(s:ak)(g:Int)(w:World)(h:aG B w b s)(hl:s.sh.length≤1000000)(hm:s.ms.length≤1000000):
 Rc 119 #[.p b,.i g] w (.bool (s.sh.any (λx=>x.au==g)||s.ms.any (λx=>x.1==g))) λw'=>w'=w:=by
 have H1:=aQ B b s g w h hl;have H2:=dP B b s g w h hm;rw[<-qX (λx:aS=>x.au==g) s.sh,<-qX (λx:Int×Int=>x.1==g) s.ms];obtain⟨p,hp⟩:=eX (fi (λx:aS=>x.au==g) 0 s.sh);obtain⟨q,hq⟩:=eX (fi (λx:Int×Int=>x.1==g) 0 s.ms);rw[hp]at H1⊢;rw[hq]at H2⊢;clear h hp hq;by_cases h0:0≤p
 .go_enter Tryz.func119,Tryz.ntmps119;go_wp2_with (first
   |(go_at_call 56;refine H1.mono ?_;rintro e w' ⟨rfl,hw'⟩;subst w')
   |(go_at_call 112;refine H2.mono ?_;rintro e w' ⟨rfl,hw'⟩;subst w'))
  go_ret;exact⟨nM (by simp[h0]),rfl⟩
 go_enter Tryz.func119,Tryz.ntmps119;go_wp2_with (first
  |(go_at_call 56;refine H1.mono ?_;rintro e w' ⟨rfl,hw'⟩;subst w')
  |(go_at_call 112;refine H2.mono ?_;rintro e w' ⟨rfl,hw'⟩;subst w'))
 go_ret;exact⟨nM (by simp),rfl⟩
theorem Jo(B b:Nat)(s:ak)(k:Nat)(w:World)(h:aG B w b s)(hk:k<s.blocks)(hb:s.blocks≤16):
 Rc 29 #[.p b,.i k] w (.tuple #[.t (s.dat[k]'(by rw[h.j6];omega)),.i 0]) λw'=>w'=w:=by
 obtain⟨c0,c1,c2,c3,cZ,c37⟩:=h.cells;have d1:=h.dat k (by omega);obtain⟨x,hx⟩:=eX (s.dat[k]'(by rw[h.j6];omega));rw[hx]at d1⊢;obtain⟨n,hn⟩:=eX s.blocks;rw[hn]at c1 hk hb;have k0:(k:Int)<16:=by omega
 have k1:¬((n:Int)≤(k:Int)):=by omega
 clear h c0 c2 c3 cZ c37 hx hn;go_enter Tryz.func29,Tryz.ntmps29;go_wp2;go_ret2;exact⟨rfl,rfl⟩
theorem E8(B b:Nat)(s:ak)(k:Int)(w:World)(h:aG B w b s)(hk:(decide (0≤k)&&decide (k<s.blocks))=false):
 Rc 29 #[.p b,.i k] w (.tuple #[.t ⟨#[]⟩,.i 1]) λw'=>w'=w:=by
 obtain⟨c0,c1,c2,c3,cZ,c37⟩:=h.cells;obtain⟨n,hn⟩:=eX s.blocks;rw[hn]at c1 hk;clear h c0 c2 c3 cZ c37 hn;by_cases h0:k<0
 .go_enter Tryz.func29,Tryz.ntmps29;go_wp2;go_ret2;exact⟨rfl,rfl⟩
 have h1:(n:Int)≤k:=by simp at hk;omega
 clear hk;go_enter Tryz.func29,Tryz.ntmps29;go_wp2;go_ret2;exact⟨rfl,rfl⟩
theorem aG.put{B:Nat}{w:World}{b:Nat}{s s':ak}(h:aG B w b s)(j:Nat)(v:Value)(hc:s.cells.set j v=s'.cells)(hd:s'.dat.length=16)(hb:s'.born.length=16)(hsh:s'.sh=s.sh)(hms:s'.ms=s.ms)(hsv:s'.sv=s.sv)(hmv:s'.mv=s.mv):aG B (w.setCell (Ad b j) v) b s':=by
 obtain⟨a1,a2⟩:=h.apart;refine⟨?_,hd,hb,by rw[hsh];exact h.wf,?_,?_,h.hb⟩
 .rw[dy w b j _ _ _ h.blk,<-hc];simp
 .rw[hsv,hsh];exact aj h.sh (λk hk=>de _ _ _ _ (a1 k hk).1)
 rw[hmv,hms];exact aj h.ms (λk hk=>de _ _ _ _ (a2 k hk))
theorem tH(s:ak)(z:Int):s.cells.set 2 (.i z)={s with now:=z}.cells:=by simp[ak.cells]
theorem EY(s:ak)(z:Int):s.cells.set 3 (.i z)={s with last:=z}.cells:=by simp[ak.cells]
theorem lZ(s:ak)(hd:s.dat.length=16)(k:Nat)(hk:k<16)(x:cC):s.cells.set (4+k) (.t x)={s with dat:=s.dat.set k x}.cells:=by unfold ak.cells;rw[fl _ _ (by simp),show 4+k - [Value.i s.id,.i s.blocks,.i s.now,.i s.last].length=k by simp,List.set_append_left _ _ (by simp[bG,hd];exact hk)];simp[bG,List.map_set]
theorem uX(s:ak)(hd:s.dat.length=16)(hb:s.born.length=16)(k:Nat)(hk:k<16)(z:Int):s.cells.set (20+k) (.i z)={s with born:=s.born.set k z}.cells:=by unfold ak.cells;rw[fl _ _ (by simp;omega),show 20+k - [Value.i s.id,.i s.blocks,.i s.now,.i s.last].length=16+k by simp;omega,fl _ _ (by simp[bG,hd]),show 16+k-(bG s.dat).length=k by simp[bG,hd],List.set_append_left _ _ (by simp[aT,hb];exact hk)];simp[aT,List.map_set]
def ak.write(s:ak)(k:Nat)(x:cC):ak:={s with now:=s.now+1,dat:=s.dat.set k x,born:=s.born.set k (s.now+1)}
theorem Fa(B b:Nat)(s:ak)(k:Nat)(x:cC)(w:World)(h:aG B w b s)(hk:k<s.blocks)(hb:s.blocks≤16)(hx:x.size=4)(hn:0≤s.now∧s.now≤1000000000000):
 Rc 64 #[.p b,.i k,.t x] w (.i 0) λw'=>aG B w' b (s.write k x)∧Fr (aN b s) w w':=by
 obtain⟨c0,c1,c2,c3,cZ,c37⟩:=h.cells;have R1:aG B (w.setCell (Ad b 2) (.i (s.now+1))) b {s with now:=s.now+1}:=h.put 2 _ (tH s _) h.j6 h.b16 rfl rfl rfl rfl;have R2:aG B ((w.setCell (Ad b 2) (.i (s.now+1))).setCell (Ad b (4+k)) (.t x)) b {s with now:=s.now+1,dat:=s.dat.set k x}:=R1.put (4+k) _ (lZ {s with now:=s.now+1} h.j6 k (by omega) x) (by simp[h.j6]) h.b16 rfl rfl rfl rfl;have R3:aG B (((w.setCell (Ad b 2) (.i (s.now+1))).setCell (Ad b (4+k)) (.t x)).setCell (Ad b (20+k)) (.i (s.now+1))) b (s.write k x):=R2.put (20+k) _ (uX {s with now:=s.now+1,dat:=s.dat.set k x} (by simp[h.j6]) h.b16 k (by omega) (s.now+1)) (by simp[ak.write,h.j6]) (by simp[ak.write,h.b16]) rfl rfl rfl rfl;have F3:Fr (aN b s) w (((w.setCell (Ad b 2) (.i (s.now+1))).setCell (Ad b (4+k)) (.t x)).setCell (Ad b (20+k)) (.i (s.now+1))):=((fR.setCell _ (Or.inl (by simp[aN]))).setCell _ (Or.inl (by simp[aN]))).setCell _ (Or.inl (by simp[aN]));have HE:=Hj2 R3 F3;obtain⟨w1,hw1⟩:=eX (w.setCell (Ad b 2) (.i (s.now+1)));obtain⟨w2,hw2⟩:=eX (w1.setCell (Ad b (4+k)) (.t x));rw[hw1,hw2]at HE;rw[hw1]at R1 R2;rw[hw2]at R2;have f2:=h.frozen 2;have f4:=R1.frozen (4+k);have f20:=R2.frozen (20+k);have d4:∃v,cD w1 b (4+k) v:=⟨_,R1.dat k (by omega)⟩;obtain⟨v4,d4⟩:=d4;have d20:∃v,cD w2 b (20+k) v:=⟨_,R2.BF k (by omega)⟩;obtain⟨v20,d20⟩:=d20;have d2:cE w2 b 2 (s.now+1):=R2.cells.2.2.1;have e1:IntKind.i64.wrap (s.now+1)=s.now+1:=aD ⟨by omega,by omega⟩;obtain⟨n,hnn⟩:=eX s.blocks;rw[hnn]at c1 hk hb;have k0:(k:Int)<16:=by omega
 have k1:¬((n:Int)≤(k:Int)):=by omega
 have k2:(0:Int)≤(k:Int):=Int.natCast_nonneg _;have hx4:((x.size:Int) != 4)=false:=by rw[hx];rfl
 clear h R1 R2 R3 F3 c0 c3 cZ c37 hnn hx;go_enter Tryz.func64,Tryz.ntmps64;go_wp2;go_region;all_goals
  go_wp2;go_ret;exact⟨rfl,HE.o.1.aA fR.drew,HE.o.2.drew⟩
theorem BL(B b:Nat)(s:ak)(k:Int)(x:cC)(w:World)(h:aG B w b s)(hk:(decide (0≤k)&&decide (k<s.blocks))=false∨((x.size:Int) != 4)=true):
 Rc 64 #[.p b,.i k,.t x] w (.i 1) λw'=>w'=w:=by
 obtain⟨c0,c1,c2,c3,cZ,c37⟩:=h.cells;obtain⟨n,hn⟩:=eX s.blocks;rw[hn]at c1 hk;clear h c0 c2 c3 cZ c37 hn;by_cases h0:k<0
 .clear hk;go_enter Tryz.func64,Tryz.ntmps64;go_wp2;go_ret;exact⟨rfl,rfl⟩
 by_cases h1:(n:Int)≤k
 .clear hk;go_enter Tryz.func64,Tryz.ntmps64;go_wp2;go_ret;exact⟨rfl,rfl⟩
 have h2:((x.size:Int) != 4)=true:=by
  rcases hk with hk|hk
  .simp at hk;omega
  exact hk
 clear hk;go_enter Tryz.func64,Tryz.ntmps64;go_wp2;go_ret;exact⟨rfl,rfl⟩
def aS.hold(x:aS)(z:Int):aS:={x with holds:=z}
def ak.setH(s:ak)(j:Nat)(x:aS)(z:Int):ak:={s with sh:=s.sh.set j (x.hold z)}
theorem Md(x:aS)(z:Int):x.cells.set 2 (.i z)=(x.hold z).cells:=by simp[aS.cells,aS.hold]
theorem zC:∀(l:List aS)(_:∀x∈l,x.wf)(j:Nat)(x:aS)(z:Int),l[j]?=some x->(bS l).set (j*36+2) (.i z)=bS (l.set j (x.hold z))
 |[],_,_,_,_,h=>by simp at h
 |y::r,hf,0,x,z,h=>by simp at h;subst h;have hl:=iy (hf y (by simp));show(y.cells++bS r).set (0*36+2) _=(y.hold z).cells++bS r;rw[List.set_append_left _ _ (by omega),<-Md]
 |y::r,hf,j+1,x,z,h=>by have ih:=zC r (λa ha=>hf a (by simp[ha])) j x z (by simpa using h);have hl:=iy (hf y (by simp));show(y.cells++bS r).set ((j+1)*36+2) _=y.cells++bS (r.set j (x.hold z));rw[fl _ _ (by omega),show(j+1)*36+2-y.cells.length=j*36+2 by omega,ih]
theorem aG.setH{B:Nat}{w:World}{b:Nat}{s:ak}(h:aG B w b s){j:Nat}{x:aS}(hx:s.sh[j]?=some x)(z:Int){gg cap:Nat}(hsv:s.sv=.slice (some (Ad gg 0)) s.sh.length cap):aG B (w.setCell (Ad gg (j*36+2)) (.i z)) b (s.setH j x z):=by
 obtain⟨a1,a2⟩:=h.apart;have hj:j<s.sh.length:=(df.1 hx).1;have an:=a1 gg (by rw[hsv];rfl);refine⟨?_,h.j6,h.b16,λy hy=>?_,?_,?_,h.hb⟩
 .rw[de _ _ _ _ (by exact Ne.symm an.1)];exact h.blk
 .rcases ik hy with hy|rfl
  .exact h.wf y hy
  exact h.wf x (eW hx)
 .show(w.setCell (Ad gg (j*36+2)) (.i z)).ownsRow B 148 36 s.sv (s.sh.set j (x.hold z)).length (bS (s.sh.set j (x.hold z)));rw[<-zC _ h.wf _ _ _ hx,eR,hsv];have ho:=h.sh;rw[hsv]at ho;exact qw ho _ (by omega)
 exact aj h.ms (λk hk=>de _ _ _ _ (λe=>by have e':k=gg:=e;subst e';exact an.2 hk))
theorem Js(B b:Nat)(s:ak)(g:Int)(j:Nat)(x:aS)(w:World)(h:aG B w b s)(hl:s.sh.length≤12)(hf:fi (λy:aS=>y.au==g) 0 s.sh=(j:Int))(hx:s.sh[j]?=some x)(hh:0≤x.holds∧x.holds<9):
 Rc 71 #[.p b,.i g] w (.i 0) λw'=>aG B w' b (s.setH j x (x.holds+1))∧Fr (aN b s) w w':=by
 have hj:j<s.sh.length:=(df.1 hx).1;have HS:=aQ B b s g w h (by omega);rw[hf]at HS;obtain⟨ao,cap,hsv⟩:=ah h.sh;have ho:=h.sh;rw[hsv]at ho;obtain⟨gg,hgg,hcap,hcc⟩:=aB ho (by omega);subst hgg;have cZ:w.cell? (Ad b 36)=some (.slice (some (Ad gg 0)) s.sh.length cap):=by rw[<-hsv];exact h.cells.2.2.2.2.1
 have d2:w.cell? (Ad gg (j*36+2))=some (.i x.holds):=by
  rw[h.fE hsv j hj 2 (by omega)];rw[dp hj]at hx;have:s.sh[j]=x:=by simpa using hx
  rw[this];rfl
 have z2:w.frozen? (Ad gg (j*36+2))=false:=by obtain⟨_,cur,h1⟩:=av h.sh (k:=gg) (by rw[hsv];rfl);exact ay h1 _
 have t1:¬((9:Int)≤x.holds):=by omega
 have e1:IntKind.i64.wrap (x.holds+1)=x.holds+1:=aD ⟨by omega,by omega⟩;have HE:Hid (aG B (w.setCell (Ad gg (j*36+2)) (.i (x.holds+1))) b (s.setH j x (x.holds+1))∧Fr (aN b s) w (w.setCell (Ad gg (j*36+2)) (.i (x.holds+1)))):=⟨h.setH hx _ hsv,fR.setCell _ (Or.inl (by simp[aN,hsv,Value.ownBlock]))⟩;obtain⟨n,hn⟩:=eX s.sh.length;have hjn:(j:Int)<(n:Int):=by omega
 rw[hn]at hcap hj hl cZ;clear h hf hx ho hsv hcc hn;go_enter Tryz.func71,Tryz.ntmps71;go_wp2_with (first
  |(go_at_call 56;refine HS.mono ?_;rintro e w' ⟨rfl,hw'⟩;subst w'))
 go_ret;exact⟨rfl,HE.o⟩
theorem zl(B b:Nat)(s:ak)(g:Int)(j:Nat)(x:aS)(w:World)(h:aG B w b s)(hl:s.sh.length≤12)(hf:fi (λy:aS=>y.au==g) 0 s.sh=(j:Int))(hx:s.sh[j]?=some x)(hh:0<x.holds∧x.holds≤9):
 Rc 73 #[.p b,.i g] w (.i 0) λw'=>aG B w' b (s.setH j x (x.holds-1))∧Fr (aN b s) w w':=by
 have hj:j<s.sh.length:=(df.1 hx).1;have HS:=aQ B b s g w h (by omega);rw[hf]at HS;obtain⟨ao,cap,hsv⟩:=ah h.sh;have ho:=h.sh;rw[hsv]at ho;obtain⟨gg,hgg,hcap,hcc⟩:=aB ho (by omega);subst hgg;have cZ:w.cell? (Ad b 36)=some (.slice (some (Ad gg 0)) s.sh.length cap):=by rw[<-hsv];exact h.cells.2.2.2.2.1
 have d2:w.cell? (Ad gg (j*36+2))=some (.i x.holds):=by
  rw[h.fE hsv j hj 2 (by omega)];rw[dp hj]at hx;have:s.sh[j]=x:=by simpa using hx
  rw[this];rfl
 have z2:w.frozen? (Ad gg (j*36+2))=false:=by obtain⟨_,cur,h1⟩:=av h.sh (k:=gg) (by rw[hsv];rfl);exact ay h1 _
 have t1:(x.holds==0)=false:=by simp;omega
 have e1:IntKind.i64.wrap (x.holds-1)=x.holds-1:=aD ⟨by omega,by omega⟩;have HE:Hid (aG B (w.setCell (Ad gg (j*36+2)) (.i (x.holds-1))) b (s.setH j x (x.holds-1))∧Fr (aN b s) w (w.setCell (Ad gg (j*36+2)) (.i (x.holds-1)))):=⟨h.setH hx _ hsv,fR.setCell _ (Or.inl (by simp[aN,hsv,Value.ownBlock]))⟩;obtain⟨n,hn⟩:=eX s.sh.length;have hjn:(j:Int)<(n:Int):=by omega
 rw[hn]at hcap hj hl cZ;clear h hf hx ho hsv hcc hn;go_enter Tryz.func73,Tryz.ntmps73;go_wp2_with (first
  |(go_at_call 56;refine HS.mono ?_;rintro e w' ⟨rfl,hw'⟩;subst w'))
 go_ret;exact⟨rfl,HE.o⟩
theorem Bc(B b:Nat)(s:ak)(g:Int)(j:Nat)(x:aS)(w:World)(h:aG B w b s)(hl:s.sh.length≤12)(hf:fi (λy:aS=>y.au==g) 0 s.sh=(j:Int))(hx:s.sh[j]?=some x)(hh:9≤x.holds):
 Rc 71 #[.p b,.i g] w (.i 5) λw'=>w'=w:=by
 have hj:j<s.sh.length:=(df.1 hx).1;have HS:=aQ B b s g w h (by omega);rw[hf]at HS;obtain⟨ao,cap,hsv⟩:=ah h.sh;have ho:=h.sh;rw[hsv]at ho;obtain⟨gg,hgg,hcap,hcc⟩:=aB ho (by omega);subst hgg;have cZ:w.cell? (Ad b 36)=some (.slice (some (Ad gg 0)) s.sh.length cap):=by rw[<-hsv];exact h.cells.2.2.2.2.1
 have d2:w.cell? (Ad gg (j*36+2))=some (.i x.holds):=by
  rw[h.fE hsv j hj 2 (by omega)];rw[dp hj]at hx;have:s.sh[j]=x:=by simpa using hx
  rw[this];rfl
 have t1:(9:Int)≤x.holds:=by omega
 obtain⟨n,hn⟩:=eX s.sh.length;have hjn:(j:Int)<(n:Int):=by omega
 rw[hn]at hcap hj hl cZ;clear h hf hx ho hsv hcc hn;go_enter Tryz.func71,Tryz.ntmps71;go_wp2_with (first
  |(go_at_call 56;refine HS.mono ?_;rintro e w' ⟨rfl,hw'⟩;subst w'))
 go_ret;exact⟨rfl,rfl⟩
theorem wJ(B b:Nat)(s:ak)(g:Int)(j:Nat)(x:aS)(w:World)(h:aG B w b s)(hl:s.sh.length≤12)(hf:fi (λy:aS=>y.au==g) 0 s.sh=(j:Int))(hx:s.sh[j]?=some x)(hh:x.holds=0):
 Rc 73 #[.p b,.i g] w (.i 1) λw'=>w'=w:=by
 have hj:j<s.sh.length:=(df.1 hx).1;have HS:=aQ B b s g w h (by omega);rw[hf]at HS;obtain⟨ao,cap,hsv⟩:=ah h.sh;have ho:=h.sh;rw[hsv]at ho;obtain⟨gg,hgg,hcap,hcc⟩:=aB ho (by omega);subst hgg;have cZ:w.cell? (Ad b 36)=some (.slice (some (Ad gg 0)) s.sh.length cap):=by rw[<-hsv];exact h.cells.2.2.2.2.1
 have d2:w.cell? (Ad gg (j*36+2))=some (.i x.holds):=by
  rw[h.fE hsv j hj 2 (by omega)];rw[dp hj]at hx;have:s.sh[j]=x:=by simpa using hx
  rw[this];rfl
 have t1:(x.holds==0)=true:=by simp[hh]
 clear hh;obtain⟨n,hn⟩:=eX s.sh.length;have hjn:(j:Int)<(n:Int):=by omega
 rw[hn]at hcap hj hl cZ;clear h hf hx ho hsv hcc hn;go_enter Tryz.func73,Tryz.ntmps73;go_wp2_with (first
  |(go_at_call 56;refine HS.mono ?_;rintro e w' ⟨rfl,hw'⟩;subst w'))
 go_ret;exact⟨rfl,rfl⟩
theorem Bf(B b:Nat)(s:ak)(g:Int)(w:World)(h:aG B w b s)(hl:s.sh.length≤12)(hf:fi (λy:aS=>y.au==g) 0 s.sh=-1):
 Rc 71 #[.p b,.i g] w (.i 3) λw'=>w'=w:=by
 have HS:=aQ B b s g w h (by omega);rw[hf]at HS;clear h hf;go_enter Tryz.func71,Tryz.ntmps71;go_wp2_with (first
  |(go_at_call 56;refine HS.mono ?_;rintro e w' ⟨rfl,hw'⟩;subst w'))
 go_ret;exact⟨rfl,rfl⟩
theorem uq(B b:Nat)(s:ak)(g:Int)(w:World)(h:aG B w b s)(hl:s.sh.length≤12)(hf:fi (λy:aS=>y.au==g) 0 s.sh=-1):
 Rc 73 #[.p b,.i g] w (.i 3) λw'=>w'=w:=by
 have HS:=aQ B b s g w h (by omega);rw[hf]at HS;clear h hf;go_enter Tryz.func73,Tryz.ntmps73;go_wp2_with (first
  |(go_at_call 56;refine HS.mono ?_;rintro e w' ⟨rfl,hw'⟩;subst w'))
 go_ret;exact⟨rfl,rfl⟩
theorem wK{x:aS}(h:x.wf)(k:Nat)(hk:k<16):x.cells[4+k]?=some (.t (x.dat[k]'(by rw[h.1];exact hk))):=by unfold aS.cells;rw[eC (by simp),show 4+k - [Value.i x.au,.i x.time,.i x.holds,.i x.came].length=k by simp,eS (by simp[bG,h.1];exact hk)];simp[bG,h.1,hk]
theorem PI(B b:Nat)(s:ak)(g:Int)(j k:Nat)(x:aS)(w:World)(h:aG B w b s)(hl:s.sh.length≤12)(hf:fi (λy:aS=>y.au==g) 0 s.sh=(j:Int))(hx:s.sh[j]?=some x)(hk:k<s.blocks)(hb:s.blocks≤16)(hw:x.wf):
 Rc 69 #[.p b,.i g,.i k] w (.tuple #[.t (x.dat[k]'(by rw[hw.1];omega)),.i 0]) λw'=>w'=w:=by
 have hj:j<s.sh.length:=(df.1 hx).1;have HS:=aQ B b s g w h (by omega);rw[hf]at HS;obtain⟨ao,cap,hsv⟩:=ah h.sh;have ho:=h.sh;rw[hsv]at ho;obtain⟨gg,hgg,hcap,hcc⟩:=aB ho (by omega);subst hgg;have cZ:w.cell? (Ad b 36)=some (.slice (some (Ad gg 0)) s.sh.length cap):=by rw[<-hsv];exact h.cells.2.2.2.2.1
 have c1:=h.cells.2.1;have d2:w.cell? (Ad gg (j*36+4+k))=some (.t (x.dat[k]'(by rw[hw.1];omega))):=by
  rw[show j*36+4+k=j*36+(4+k) by omega,h.fE hsv j hj (4+k) (by omega)];rw[dp hj]at hx;have:s.sh[j]=x:=by simpa using hx
  rw[this];exact wK hw k (by omega)
 obtain⟨y,hy⟩:=eX (x.dat[k]'(by rw[hw.1];omega));rw[hy]at d2⊢;obtain⟨n,hn⟩:=eX s.sh.length;obtain⟨m,hm⟩:=eX s.blocks;have hjn:(j:Int)<(n:Int):=by omega
 rw[hn]at hcap hj hl cZ;rw[hm]at c1 hk hb;have k0:(k:Int)<16:=by omega
 have k1:¬((m:Int)≤(k:Int)):=by omega
 clear h hf hx ho hsv hcc hn hy hm;go_enter Tryz.func69,Tryz.ntmps69;go_wp2_with (first
  |(go_at_call 56;refine HS.mono ?_;rintro e w' ⟨rfl,hw'⟩;subst w'))
 go_ret2;exact⟨rfl,rfl⟩
theorem IW(B b:Nat)(s:ak)(g k:Int)(w:World)(h:aG B w b s)(hl:s.sh.length≤12)(hf:fi (λy:aS=>y.au==g) 0 s.sh=-1):
 Rc 69 #[.p b,.i g,.i k] w (.tuple #[.t ⟨#[]⟩,.i 3]) λw'=>w'=w:=by
 have HS:=aQ B b s g w h (by omega);rw[hf]at HS;clear h hf;go_enter Tryz.func69,Tryz.ntmps69;go_wp2_with (first
  |(go_at_call 56;refine HS.mono ?_;rintro e w' ⟨rfl,hw'⟩;subst w'))
 go_ret2;exact⟨rfl,rfl⟩
theorem LG(B b:Nat)(s:ak)(g k:Int)(j:Nat)(w:World)(h:aG B w b s)(hl:s.sh.length≤12)(hf:fi (λy:aS=>y.au==g) 0 s.sh=(j:Int))(hk:(decide (0≤k)&&decide (k<s.blocks))=false):
 Rc 69 #[.p b,.i g,.i k] w (.tuple #[.t ⟨#[]⟩,.i 1]) λw'=>w'=w:=by
 have HS:=aQ B b s g w h (by omega);rw[hf]at HS;have c1:=h.cells.2.1;obtain⟨n,hn⟩:=eX s.blocks;rw[hn]at c1 hk;have j0:¬((j:Int)<0):=by omega
 clear h hf hn;by_cases h0:k<0
 .clear hk;go_enter Tryz.func69,Tryz.ntmps69;go_wp2_with (first
   |(go_at_call 56;refine HS.mono ?_;rintro e w' ⟨rfl,hw'⟩;subst w'))
  go_ret2;exact⟨rfl,rfl⟩
 have h1:(n:Int)≤k:=by simp at hk;omega
 clear hk;go_enter Tryz.func69,Tryz.ntmps69;go_wp2_with (first
  |(go_at_call 56;refine HS.mono ?_;rintro e w' ⟨rfl,hw'⟩;subst w'))
 go_ret2;exact⟨rfl,rfl⟩
theorem Jk(l:List (Int×Int))(k:Nat)(h:k<l.length):bV ((l.take (k+1)).map Prod.fst)=bV ((l.take k).map Prod.fst)++[.i l[k].1]:=by rw[ew h];simp only[bV,fj,List.map_cons,List.map_nil]
theorem BH(B b:Nat)(s:ak)(w:World)(h:aG B w b s)(hl:s.ms.length≤1000000):
 Cl 26 #[.p b] w λe w'=>∃v,e=.returned v∧w'.ownsRow w.heap.size 3 1 v s.ms.length (bV (s.ms.map Prod.fst))∧Fr [] w w':=by
 obtain⟨i0,hi,hz0,hz1,hz2⟩:=info_parts info3;obtain⟨ao,cap,hmv⟩:=ah h.ms;obtain⟨n,hn⟩:=eX s.ms.length;have HO:Hid (aG B w b s∧s.mv=.slice ao n cap∧s.ms.length=n):=⟨h,by rw[hmv,hn],hn⟩;rw[hn]at hl⊢;clear h hmv hn;have c37:w.cell? (Ad b 37)=some (.slice ao n cap):=by rw[<-HO.o.2.1];exact HO.o.1.cells.2.2.2.2.2
 go_enter Tryz.func26,Tryz.ntmps26;go_wp2;go_loopw [3,4] (λvg i wr=>∃k:Nat,k≤n∧i=.i k∧Hid (Fr [] w wr∧wr.ownsRow w.heap.size 3 1 vg k (bV ((s.ms.take k).map Prod.fst)))) (λ_ i _=>n-(intOf i).toNat)
 case atStart=>exact⟨0,dC _,rfl,fR,eA _ _ _ _⟩
 obtain⟨k,hk,rfl,HK⟩:=hrel;obtain⟨W3,hW3⟩:=eY wr;subst hW3;clear c37;have HR:=Hd (HO.o.1.aA HK.o.1);have c37:W3.cell? (Ad b 37)=some (.slice ao n cap):=by rw[<-HO.o.2.1];exact HR.o.cells.2.2.2.2.2
 obtain⟨va,vc,hsh⟩:=ah HK.o.2;subst hsh;by_cases hlt:k<n
 .have ho:=HR.o.ms;rw[HO.o.2.1,HO.o.2.2]at ho;obtain⟨gg,hgg,hcap,hcc⟩:=aB ho (by omega);subst hgg;have hkl:k<s.ms.length:=by rw[HO.o.2.2];exact hlt
  have d0:W3.cell? (Ad gg (k*2))=some (.i s.ms[k].1):=by rw[hcc _ (by omega)];exact(jE s.ms k hkl).1
  have HX:=Jk s.ms k hkl;obtain⟨g,hg⟩:=eX s.ms[k].1;rw[hg]at d0 HX;have Yx:=Hd HX;have hltz:(k:Int)<(n:Int):=by omega
  have hsz:w.heap.size≤W3.heap.size:=HK.o.1.size;clear ho hcc hg HX;go_wp2_with (first
   |(at_builtin;refine wpList_append_own _ rfl _ _ 30 rfl w.heap.size 3 i0 _ 1 8 Tryz.underlying30 hi hz0 hz1 hz2 rfl (by omega) (.slice va k vc) k (bV ((s.ms.take k).map Prod.fst)) rfl (HK.o.2.alloc _) (Ad W3.heap.size 0) 1 1 [.i g] rfl (by simp) (World.news_of_block (cs:=#[.i g]) (t:=3) (fr:=(0,0)) (di W3 _)) (by simp[Value.oneCell']) (by unfold maxLen;omega) (by omega) (by simp;omega) ?_;intro v9 w9 aH aJ iR;have H9:Hid (Fr [] w w9∧w9.ownsRow w.heap.size 3 1 v9 (k+1) (bV ((s.ms.take (k+1)).map Prod.fst))):=⟨(HK.o.1.alloc _).grown aJ (λx hx=>Or.inr (HK.o.2.lt x hx).1),by rw[Yx.o];exact aH⟩;clear aH aJ iR))
  go_roundw
  case rel=>exact⟨k+1,by omega,by go_num,H9⟩
  simp[intOf];omega
 have hkk:k=n:=by omega
 subst hkk;go_wp2;go_ret;have:=HK.o.2;rw[eL (by rw[HO.o.2.2];exact eh _)]at this;exact⟨_,rfl,this,HK.o.1⟩
def r3(x:aS):Int×Int×Int:=(x.au,x.time,x.holds)
theorem Jl(l:List aS)(k:Nat)(h:k<l.length):dL ((l.take (k+1)).map r3)=dL ((l.take k).map r3)++[.i l[k].au,.i l[k].time,.i l[k].holds]:=by rw[ew h];simp only[dL,fj,List.flatMap_append,List.map_cons,List.map_nil,gC,List.flatMap_nil,Ny,r3,gn]
theorem BI(B b:Nat)(s:ak)(w:World)(h:aG B w b s)(hl:s.sh.length≤12):
 Cl 22 #[.p b] w λe w'=>∃v,e=.returned v∧w'.ownsRow w.heap.size 84 3 v s.sh.length (dL (s.sh.map r3))∧Fr [] w w':=by
 obtain⟨i0,hi,hz0,hz1,hz2⟩:=info_parts vG;obtain⟨ao,cap,hsv⟩:=ah h.sh;obtain⟨n,hn⟩:=eX s.sh.length;have HO:=Hj3 h hsv hn;rw[hn]at hl⊢;have cZ:w.cell? (Ad b 36)=some (.slice ao n cap):=by rw[<-hn,<-hsv];exact h.cells.2.2.2.2.1
 clear h hsv hn;go_enter Tryz.func22,Tryz.ntmps22;go_wp2;go_loopw [3,4] (λvg i wr=>∃k:Nat,k≤n∧i=.i k∧Hid (Fr [] w wr∧wr.ownsRow w.heap.size 84 3 vg k (dL ((s.sh.take k).map r3)))) (λ_ i _=>n-(intOf i).toNat)
 case atStart=>exact⟨0,dC _,rfl,fR,eA _ _ _ _⟩
 obtain⟨k,hk,rfl,HK⟩:=hrel;obtain⟨W3,hW3⟩:=eY wr;subst hW3;clear cZ;have HR:=Hd (HO.o.1.aA HK.o.1);have cZ:W3.cell? (Ad b 36)=some (.slice ao n cap):=by rw[<-HO.o.2.2,<-HO.o.2.1];exact HR.o.cells.2.2.2.2.1
 obtain⟨va,vc,hsh⟩:=ah HK.o.2;subst hsh;by_cases hlt:k<n
 .have ho:=HR.o.sh;rw[HO.o.2.1]at ho;obtain⟨gg,hgg,hcap,hcc⟩:=aB ho (by rw[HO.o.2.2];omega);subst hgg;have hkl:k<s.sh.length:=by rw[HO.o.2.2];exact hlt
  have q0:=HR.o.fE HO.o.2.1 k hkl 0 (by omega);have q1:=HR.o.fE HO.o.2.1 k hkl 1 (by omega);have q2:=HR.o.fE HO.o.2.1 k hkl 2 (by omega);have HX:=Jl s.sh k hkl;obtain⟨x,hx⟩:=eX s.sh[k];rw[hx]at q0 q1 q2 HX;have d0:cE W3 gg (k*36) x.au:=q0;have d1:cE W3 gg (k*36+1) x.time:=q1;have d2:cE W3 gg (k*36+2) x.holds:=q2;have Yx:=Hd HX;have hltz:(k:Int)<(n:Int):=by omega
  have hz':(0:Int)≤(k:Int):=Int.natCast_nonneg _;have hsz:w.heap.size≤W3.heap.size:=HK.o.1.size;rw[HO.o.2.2]at hcap;have lb:=dm _ _ cZ;have lg:=dm _ _ d0;have HOw:=Hd HK.o.2;have hnb:(Value.slice va k vc).ownBlock≠some b:=λe=>by have h1:=(HK.o.2.lt b e).1;have h2:=(HO.o.1.lt b (by simp[aN])).2;omega
  have BD:(Value.slice va k vc).ownBlock≠some gg:=λe=>by have h1:=(HK.o.2.lt gg e).1;have h2:=(HO.o.1.lt gg (by simp[aN,HO.o.2.1,Value.ownBlock])).2;omega
  clear ho hcc hx HX q0 q1 q2;go_wp2;go_region_held3 (λw'=>w'.cell? (Ad b 36)=some (.slice (some (Ad gg 0)) n cap)∧w'.cell? (Ad gg (k*36))=some (.i x.au)∧w'.cell? (Ad gg (k*36+1))=some (.i x.time)∧w'.cell? (Ad gg (k*36+2))=some (.i x.holds))
   (first
     |go_keep
     |(go_split_ands;refine⟨?_,?_,?_,?_⟩
       . (rw[hgrow.cell_far _ (by simp;omega) (Ne.symm hnb)];assumption)
       . (rw[hgrow.cell_far _ (by simp;omega) (Ne.symm BD)];assumption)
       . (rw[hgrow.cell_far _ (by simp;omega) (Ne.symm BD)];assumption)
       . (rw[hgrow.cell_far _ (by simp;omega) (Ne.symm BD)];assumption)))
   ((refine step_append_lies _ (by rfl) _ _ _ (by rfl) w.heap.size 84 i0 _ 3 24 Tryz.underlying85 hi hz0 hz1 hz2 rfl (by omega) (.slice va k vc) k (dL ((s.sh.take k).map r3)) (by rfl) ((HOw.o.alloc _).drew) (Ad W3.heap.size 0) 1 1 [.i x.au,.i x.time,.i x.holds] (by rfl) (by rfl) (World.news_of_block (cs:=#[.i x.au,.i x.time,.i x.holds]) (t:=84) (fr:=(0,0)) (di W3 _)) (by simp[Value.oneCell']) (by omega) (by unfold maxLen;omega) (by omega) (by simp;omega) (W3.heap.size+1) (by simp) ?_;intro g9 Yy w9 aH hgrow hat oK))
  all_goals
   have H9:Hid (Fr [] w w9∧w9.ownsRow w.heap.size 84 3 (.slice (some (Ad g9 0)) (k+1) Yy) (k+1) (dL ((s.sh.take (k+1)).map r3))):=⟨(HK.o.1.alloc _).drew.grown hgrow (λx hx=>Or.inr (HOw.o.lt x hx).1),by rw[Yx.o];exact aH⟩;clear aH hgrow hat
   go_wp2;go_roundw
   case rel=>exact⟨k+1,by omega,by go_num,H9⟩
   simp[intOf];omega
 have hkk:k=n:=by omega
 subst hkk;go_wp2;go_ret;have:=HK.o.2;rw[eL (by rw[HO.o.2.2];exact eh _)]at this;exact⟨_,rfl,this,HK.o.1⟩
def Ux:cC:=⟨#[0,0,0,0]⟩
def kL(k:Nat):List cC:=List.replicate k Ux++List.replicate (16-k) ⟨#[]⟩
theorem nH(k:Nat)(h:k≤16):(kL k).length=16:=by simp[kL];omega
theorem Bq(k:Nat)(h:k<16):(kL k).set k Ux=kL (k+1):=by unfold kL;rw[fl _ _ (by simp),li,Nat.sub_self,show 16-k=(16-(k+1))+1 by omega,List.replicate_succ,List.set_cons_zero,List.replicate_succ' (n:=k),jj];rfl
def ak.fresh(id:Int)(n k:Nat):ak:={id:=id,blocks:=n,now:=0,last:=0,dat:=kL k,born:=List.replicate 16 0,sh:=[],ms:=[],sv:=.slice none 0 0,mv:=.slice none 0 0}
theorem KX(id:Int)(n:Nat)(w:World)(h1:1≤id∧id≤999)(h2:1≤n∧n≤16):
 Cl 33 #[.i id,.i n] w λe w'=>∃b,e=.returned (.tuple #[.p b,.i 0])∧aG w.heap.size w' b (ak.fresh id n 16)∧Fr [] w w':=by
 have t1:decide (id<1)=false:=by simp;omega
 have t2:decide (id>999)=false:=by simp;omega
 have t3:decide ((n:Int)<1)=false:=by simp;omega
 have t4:decide ((n:Int)>16)=false:=by simp;omega
 obtain⟨w1,hw1⟩:=eX (w.alloc (.cells (ak.fresh id n 0).cells.toArray 146));obtain⟨b,hb⟩:=eX w.heap.size;have H0:Hid (aG w.heap.size w1 b (ak.fresh id n 0)∧Fr [] w w1):=by refine⟨⟨?_,nH 0 (by omega),by simp[ak.fresh],λx hx=>by simp[ak.fresh]at hx,eA _ _ _ _,eA _ _ _ _,by omega⟩,by rw[<-hw1];exact fR.alloc _⟩;rw[<-hw1,<-hb];exact di w _
 have Dp:w.alloc (.cells #[.i id,.i n,.i 0,.i 0,.t ⟨#[]⟩,.t ⟨#[]⟩,.t ⟨#[]⟩,.t ⟨#[]⟩,.t ⟨#[]⟩,.t ⟨#[]⟩,.t ⟨#[]⟩,.t ⟨#[]⟩,.t ⟨#[]⟩,.t ⟨#[]⟩,.t ⟨#[]⟩,.t ⟨#[]⟩,.t ⟨#[]⟩,.t ⟨#[]⟩,.t ⟨#[]⟩,.t ⟨#[]⟩,.i 0,.i 0,.i 0,.i 0,.i 0,.i 0,.i 0,.i 0,.i 0,.i 0,.i 0,.i 0,.i 0,.i 0,.i 0,.i 0,.slice none 0 0,.slice none 0 0] 146)=w1:=hw1;clear hw1;go_enter Tryz.func33,Tryz.ntmps33;go_wp2;clear hb Dp;go_loopw [7] (λi wr=>∃k:Nat,k≤16∧i=.i k∧Hid (aG w.heap.size wr b (ak.fresh id n k)∧Fr [] w wr)) (λi _=>16-(intOf i).toNat)
 case atStart=>exact⟨0,dC _,rfl,H0⟩
 obtain⟨k,hk,rfl,HK⟩:=hrel;obtain⟨W3,hW3⟩:=eY wr;subst hW3;clear H0;by_cases hlt:k<16
 .have hltz:(k:Int)<16:=by omega
  have d4:∃v,cD W3 b (4+k) v:=⟨_,HK.o.1.dat k hlt⟩;obtain⟨v4,d4⟩:=d4;have f4:=HK.o.1.frozen (4+k);have zT:Hid (aG w.heap.size (W3.setCell (Ad b (4+k)) (.t ⟨#[0,0,0,0]⟩)) b (ak.fresh id n (k+1))∧Fr [] w (W3.setCell (Ad b (4+k)) (.t ⟨#[0,0,0,0]⟩))):=by refine⟨HK.o.1.put (4+k) _ ?_ (nH _ (by omega)) (by simp[ak.fresh]) rfl rfl rfl rfl,HK.o.2.setCell _ (Or.inr HK.o.1.hb)⟩;have:=lZ (ak.fresh id n k) (nH k (by omega)) k hlt Ux;rw[show({ak.fresh id n k with dat:=(ak.fresh id n k).dat.set k Ux}:ak)=ak.fresh id n (k+1) by unfold ak.fresh;rw[<-Bq k hlt]]at this;exact this
  clear HK;go_wp2;go_roundw
  case rel=>exact⟨k+1,by omega,by go_num,zT⟩
  simp[intOf];omega
 have hkk:k=16:=by omega
 subst hkk;go_wp2;go_ret2;exact⟨b,rfl,HK.o.1,HK.o.2⟩
theorem Hw(id n:Int)(w:World)(h:((decide (id<1)||decide (999<id))||decide (n<1))=true∨16<n):
 Rc 33 #[.i id,.i n] w (.tuple #[.pointer none,.i 1]) λw'=>w'=w:=by
 by_cases h1:id<1
 .clear h;go_enter Tryz.func33,Tryz.ntmps33;go_wp2;go_ret2;exact⟨rfl,rfl⟩
 by_cases h2:999<id
 .clear h;go_enter Tryz.func33,Tryz.ntmps33;go_wp2;go_ret2;exact⟨rfl,rfl⟩
 by_cases h3:n<1
 .clear h;go_enter Tryz.func33,Tryz.ntmps33;go_wp2;go_ret2;exact⟨rfl,rfl⟩
 have h4:16<n:=by
  rcases h with h|h
  .simp[h1,h2,h3]at h
  exact h
 clear h;go_enter Tryz.func33,Tryz.ntmps33;go_wp2;go_ret2;exact⟨rfl,rfl⟩
theorem KZ(id n:Int)(w:World)(h:((decide (id<1)||decide (999<id))||decide (n<1))=true∨16<n):
 Rc 60 #[.i id,.i n] w (.tuple #[.pointer none,.i 1]) λw'=>w'=w:=by
 by_cases h1:id<1
 .clear h;go_enter Tryz.func60,Tryz.ntmps60;go_wp2;go_ret2;exact⟨rfl,rfl⟩
 by_cases h2:999<id
 .clear h;go_enter Tryz.func60,Tryz.ntmps60;go_wp2;go_ret2;exact⟨rfl,rfl⟩
 by_cases h3:n<1
 .clear h;go_enter Tryz.func60,Tryz.ntmps60;go_wp2;go_ret2;exact⟨rfl,rfl⟩
 have h4:16<n:=by
  rcases h with h|h
  .simp[h1,h2,h3]at h
  exact h
 clear h;go_enter Tryz.func60,Tryz.ntmps60;go_wp2;go_ret2;exact⟨rfl,rfl⟩
def pk(c n:Int):Int:=(if c<0 then -(c+1)else c)%n
theorem eP(c n:Int)(h:1≤n):0≤pk c n∧pk c n<n:=⟨Int.emod_nonneg _ (by omega),Int.emod_lt_of_pos _ (by omega)⟩
theorem dh(c n:Int)(w:World)(hc:In64 c)(hn:1≤n)(hn2:n≤2000000000):
 Rc 10 #[.i c,.i n] w (.i (pk c n)) λw'=>w'=w:=by
 obtain⟨c1,c2⟩:=hc;have hz:¬n=0:=by omega
 by_cases h0:c<0
 .have hr:=eP c n hn;have e:(-(c+1)).tmod n=pk c n:=by unfold pk;rw[if_pos h0,ky (by omega)]
  rw[Int.neg_tmod]at e;go_enter Tryz.func10,Tryz.ntmps10;go_wp2;go_ret;refine⟨dz ?_,rfl⟩;go_num
 have hr:=eP c n hn;have e:c.tmod n=pk c n:=by unfold pk;rw[if_neg h0,ky (by omega)]
 rw[ky (by omega)]at e;go_enter Tryz.func10,Tryz.ntmps10;go_wp2;go_ret;refine⟨dz ?_,rfl⟩;go_num
theorem iX(a1 a2:Option Addr)(zs:List Int)(p1 p2:Nat)(w:World)(h1:eU w a1 zs p1)(h2:eU w a2 zs p2)(hl:zs.length≤2000000):
 Rc 24 #[.slice a1 zs.length p1,.slice a2 zs.length p2] w (.bool true) λw'=>∃q,w'=w.drewN q:=by
 have HO:=Hj2 h1 h2;clear h1 h2;go_enter Tryz.func24,Tryz.ntmps24;go_wp2;go_loopw [5] (λi wr=>∃(k q:Nat),k≤zs.length∧i=.i k∧wr=w.drewN q) (λi _=>zs.length-(intOf i).toNat)
 case atStart=>exact⟨0,0,dC _,rfl,rfl⟩
 obtain⟨k,q,hk,rfl,rfl⟩:=hrel;by_cases hlt:k<zs.length
 .obtain⟨b1,o1,hb1,hc1⟩:=HO.o.1.2 (by omega);obtain⟨b2,o2,hb2,hc2⟩:=HO.o.2.2 (by omega);subst hb1;subst hb2;have e1:=HO.o.1.1;have e2:=HO.o.2.1;obtain⟨z,hz⟩:=eX (tm zs k);have d1:∀m,cE (w.drewN m) b1 (o1+k) z:=λm=>by rw[<-hz];exact hc1 k hlt
  have d2:∀m,cE (w.drewN m) b2 (o2+k) z:=λm=>by rw[<-hz];exact hc2 k hlt
  have hltz:(k:Int)<(zs.length:Int):=by omega
  clear hc1 hc2 hz;go_wp2;go_quiet (fail)
  go_wp2;go_roundw
  case rel=>exact⟨k+1,q+nq,by omega,by go_num,by first|rfl|trivial|simp[World.drewN,Nat.add_assoc]⟩
  simp[intOf];omega
 have hkk:k=zs.length:=by omega
 subst hkk;go_wp2;go_ret;exact⟨rfl,q,rfl⟩
def Gl(w:World)(ao:Option Addr)(l:List (Int×Int×Int))(cap:Nat):Prop:=
 l.length≤cap∧(0<l.length->∃b off,ao=some (Ad b off)∧∀i(h:i<l.length),w.cell? (Ad b (off+i*3))=some (.i l[i].1)∧w.cell? (Ad b (off+i*3+1))=some (.i l[i].2.1)∧w.cell? (Ad b (off+i*3+2))=some (.i l[i].2.2))
theorem iq(l:List (Int×Int×Int))(i:Nat)(h:i<l.length):(dL l)[i*3]?=some (.i l[i].1)∧(dL l)[i*3+1]?=some (.i l[i].2.1)∧(dL l)[i*3+2]?=some (.i l[i].2.2):=by have hf:∀x,(Ny x).length=3:=λ_=>rfl;exact⟨flat_get hf l i h 0 (by omega),flat_get hf l i h 1 (by omega),flat_get hf l i h 2 (by omega)⟩
theorem nQ{w:World}{base:Nat}{ao:Option Addr}{n cap:Nat}{l:List (Int×Int×Int)}(hn:l.length=n)(h:w.ownsRow base 84 3 (.slice ao n cap) n (dL l)):Gl w ao l cap:=by
 subst hn;rcases h.2 with⟨h1,h2⟩|⟨g,c,cur,h1,hb,hg,hc,hm,hs,ht⟩
 .simp at h1;exact⟨by omega,λh=>by omega⟩
 simp at h1;obtain⟨rfl,rfl⟩:=h1;refine⟨hc,λ_=>⟨g,0,rfl,λi hi=>?_⟩⟩;have hq:=iq l i hi;have hcell:∀j,j<l.length*3->w.cell? (Ad g j)=(dL l)[j]?:=λj hj=>by rw[cell_of hg,<-ht,eQ hj,<-fw]
 refine⟨?_,?_,?_⟩<;>rw[eV,hcell _ (by omega)]
 .exact hq.1
 .exact hq.2.1
 exact hq.2.2
theorem ME(W:World)(a b c:Int):(binOp .neq 84 (.agg #[.i a,.i b,.i c]) (.agg #[.i a,.i b,.i c])).run Tryz.prog W=.ok (.bool false) W:=by
 have u3:=Tryz.underlying3;have a3:=Tryz.isAgg3;have z3:=Tryz.sizeOf3;have hS:Tryz.prog.underlying 84=some (.struct (Tryz.prog.fieldsOf 84)):=by kernel_rfl
 have hp:Tryz.prog.stoodInHeld 84=false:=by kernel_rfl
 rw[run_neq_struct,show(10000:Nat)=9999+1 from rfl,run_equalIn_agg W 9999 84 _ _ hS hp];simp only[Program.fieldsOf,Tryz.underlying84];go_simp
theorem mR(a1 a2:Option Addr)(l:List (Int×Int×Int))(p1 p2:Nat)(w:World)(h1:Gl w a1 l p1)(h2:Gl w a2 l p2)(hl:l.length≤2000000):
 Rc 23 #[.slice a1 l.length p1,.slice a2 l.length p2] w (.bool true) λw'=>∃q,w'=w.drewN q:=by
 have HO:=Hj2 h1 h2;have hm:Tryz.prog.eqGuardType Tryz.prog.depth 84=false:=by kernel_rfl
 clear h1 h2;go_enter Tryz.func23,Tryz.ntmps23;go_wp2;go_loopw [5] (λi wr=>∃(k q:Nat),k≤l.length∧i=.i k∧wr=w.drewN q) (λi _=>l.length-(intOf i).toNat)
 case atStart=>exact⟨0,0,dC _,rfl,rfl⟩
 obtain⟨k,q,hk,rfl,rfl⟩:=hrel;by_cases hlt:k<l.length
 .obtain⟨b1,o1,hb1,hc1⟩:=HO.o.1.2 (by omega);obtain⟨b2,o2,hb2,hc2⟩:=HO.o.2.2 (by omega);subst hb1;subst hb2;have e1:=HO.o.1.1;have e2:=HO.o.2.1;obtain⟨⟨x,y,z⟩,hz⟩:∃z,l[k]=z:=⟨_,rfl⟩;have q1:=hc1 k hlt;have q2:=hc2 k hlt;rw[hz]at q1 q2;have d1:∀m,cE (w.drewN m) b1 (o1+k*3) x:=λm=>q1.1;have d2:∀m,cE (w.drewN m) b1 (o1+k*3+1) y:=λm=>q1.2.1;have d3:∀m,cE (w.drewN m) b1 (o1+k*3+2) z:=λm=>q1.2.2;have d4:∀m,cE (w.drewN m) b2 (o2+k*3) x:=λm=>q2.1;have d5:∀m,cE (w.drewN m) b2 (o2+k*3+1) y:=λm=>q2.2.1;have d6:∀m,cE (w.drewN m) b2 (o2+k*3+2) z:=λm=>q2.2.2;have hne:=λW=>ME W x y z;have hltz:(k:Int)<(l.length:Int):=by omega
  clear hc1 hc2 hz q1 q2;go_wp2;go_quiet (fail)
  go_wp2;go_roundw
  case rel=>exact⟨k+1,q+nq,by omega,by go_num,by first|rfl|trivial|simp[World.drewN,Nat.add_assoc]⟩
  simp[intOf];omega
 have hkk:k=l.length:=by omega
 subst hkk;go_wp2;go_ret;exact⟨rfl,q,rfl⟩
theorem Gc(B b:Nat)(s:aK)(k:Int)(w:World)(h:aC B w b 0 s)(hk:(decide (0≤k)&&decide (k<s.aL.length))=false):
 Rc 28 #[.p b,.i k] w (.tuple #[.t ⟨#[]⟩,.i 1]) λw'=>aC B w' b 0 s∧Fr (foot b s) w w':=by
 have R1:=h.lock 1;obtain⟨w1,hw1⟩:=eX (w.setCell (Ad b 0) (.int .i32 1));rw[hw1]at R1;have HL:=lock_free Tryz.muLib (Ad b 0) w h.cells.1 (h.frozen 0);have F1:Fr (foot b s) w w1:=by rw[<-hw1];exact aV b s w _
 have HF:=Hj3 hw1 R1 F1;have HR2:=Hj2 R1 F1;have HC:=Hd λW=>fF B b 1 s k W;clear h hw1 R1 F1;go_enter_defers Tryz.func28,Tryz.ntmps28;go_wp2_with (first
  |(go_at_call 50;refine HL.mono ?_;rintro e w' ⟨rfl,hw'⟩;rw[HF.o.1]at hw';have hw':=hw'.symm;subst hw')
  |(go_at_call 52;refine(HC.o _ HF.o.2.1).mono ?_;rintro e w' ⟨rfl,hw'⟩;subst w';rw[hk]))
 refine leaves_cons (f:=51) (args:=#[.pointer (some ⟨b,0,none⟩)]) (by simp) (by simp[go_sem]) ?_;refine(eK Tryz.muLib (Ad b 0) .returning _ HR2.o.1.cells.1 (HR2.o.1.frozen 0)).mono ?_;rintro e u' w'' ⟨rfl,rfl,rfl⟩;exact⟨_,ft rfl _ _ _,rfl,HR2.o.1.lock 0,HR2.o.2.setCell _ (Or.inl (by simp[foot]))⟩
theorem DR(B b:Nat)(s:aK)(g:Int)(w:World)(h:aC B w b 0 s)(hl:s.ss.length≤12)(hf:fi (λy:Sn=>y.au==g) 0 s.ss=-1):
 Rc 70 #[.p b,.i g] w (.i 3) λw'=>aC B w' b 0 s∧Fr (foot b s) w w':=by
 have R1:=h.lock 1;obtain⟨w1,hw1⟩:=eX (w.setCell (Ad b 0) (.int .i32 1));rw[hw1]at R1;have HL:=lock_free Tryz.muLib (Ad b 0) w h.cells.1 (h.frozen 0);have F1:Fr (foot b s) w w1:=by rw[<-hw1];exact aV b s w _
 have HF:=Hj3 hw1 R1 F1;have HR2:=Hj2 R1 F1;have HS:=aF B b 1 s g w1 R1 (by omega);rw[hf]at HS;clear h hw1 R1 F1 HR2 hf;go_enter_defers Tryz.func70,Tryz.ntmps70;go_wp2_with (first
  |(go_at_call 50;refine HL.mono ?_;rintro e w' ⟨rfl,hw'⟩;rw[HF.o.1]at hw';have hw':=hw'.symm;subst hw')
  |(go_at_call 53;refine HS.mono ?_;rintro e w2 ⟨rfl,hfr⟩;have HR2:=Hj2 (HF.o.2.1.aA hfr) (HF.o.2.2.trans hfr (by simp));clear hfr))
 refine leaves_cons (f:=51) (args:=#[.pointer (some ⟨b,0,none⟩)]) (by simp) (by simp[go_sem]) ?_;refine(eK Tryz.muLib (Ad b 0) .returning _ HR2.o.1.cells.1 (HR2.o.1.frozen 0)).mono ?_;rintro e u' w'' ⟨rfl,rfl,rfl⟩;exact⟨_,results_tmp rfl _ _ _,rfl,HR2.o.1.lock 0,HR2.o.2.setCell _ (Or.inl (by simp[foot]))⟩
theorem vJ(B b:Nat)(s:aK)(g:Int)(w:World)(h:aC B w b 0 s)(hl:s.ss.length≤12)(hf:fi (λy:Sn=>y.au==g) 0 s.ss=-1):
 Rc 72 #[.p b,.i g] w (.i 3) λw'=>aC B w' b 0 s∧Fr (foot b s) w w':=by
 have R1:=h.lock 1;obtain⟨w1,hw1⟩:=eX (w.setCell (Ad b 0) (.int .i32 1));rw[hw1]at R1;have HL:=lock_free Tryz.muLib (Ad b 0) w h.cells.1 (h.frozen 0);have F1:Fr (foot b s) w w1:=by rw[<-hw1];exact aV b s w _
 have HF:=Hj3 hw1 R1 F1;have HR2:=Hj2 R1 F1;have HS:=aF B b 1 s g w1 R1 (by omega);rw[hf]at HS;clear h hw1 R1 F1 HR2 hf;go_enter_defers Tryz.func72,Tryz.ntmps72;go_wp2_with (first
  |(go_at_call 50;refine HL.mono ?_;rintro e w' ⟨rfl,hw'⟩;rw[HF.o.1]at hw';have hw':=hw'.symm;subst hw')
  |(go_at_call 53;refine HS.mono ?_;rintro e w2 ⟨rfl,hfr⟩;have HR2:=Hj2 (HF.o.2.1.aA hfr) (HF.o.2.2.trans hfr (by simp));clear hfr))
 refine leaves_cons (f:=51) (args:=#[.pointer (some ⟨b,0,none⟩)]) (by simp) (by simp[go_sem]) ?_;refine(eK Tryz.muLib (Ad b 0) .returning _ HR2.o.1.cells.1 (HR2.o.1.frozen 0)).mono ?_;rintro e u' w'' ⟨rfl,rfl,rfl⟩;exact⟨_,results_tmp rfl _ _ _,rfl,HR2.o.1.lock 0,HR2.o.2.setCell _ (Or.inl (by simp[foot]))⟩
theorem Ki(B b:Nat)(s:aK)(g:Int)(k:Int)(w:World)(h:aC B w b 0 s)(hl:s.ss.length≤12)(hf:fi (λy:Sn=>y.au==g) 0 s.ss=-1):
 Rc 68 #[.p b,.i g,.i k] w (.tuple #[.t ⟨#[]⟩,.i 3]) λw'=>aC B w' b 0 s∧Fr (foot b s) w w':=by
 have R1:=h.lock 1;obtain⟨w1,hw1⟩:=eX (w.setCell (Ad b 0) (.int .i32 1));rw[hw1]at R1;have HL:=lock_free Tryz.muLib (Ad b 0) w h.cells.1 (h.frozen 0);have F1:Fr (foot b s) w w1:=by rw[<-hw1];exact aV b s w _
 have HF:=Hj3 hw1 R1 F1;have HR2:=Hj2 R1 F1;have HS:=aF B b 1 s g w1 R1 (by omega);rw[hf]at HS;clear h hw1 R1 F1 HR2 hf;go_enter_defers Tryz.func68,Tryz.ntmps68;go_wp2_with (first
  |(go_at_call 50;refine HL.mono ?_;rintro e w' ⟨rfl,hw'⟩;rw[HF.o.1]at hw';have hw':=hw'.symm;subst hw')
  |(go_at_call 53;refine HS.mono ?_;rintro e w2 ⟨rfl,hfr⟩;have HR2:=Hj2 (HF.o.2.1.aA hfr) (HF.o.2.2.trans hfr (by simp));clear hfr))
 refine leaves_cons (f:=51) (args:=#[.pointer (some ⟨b,0,none⟩)]) (by simp) (by simp[go_sem]) ?_;refine(eK Tryz.muLib (Ad b 0) .returning _ HR2.o.1.cells.1 (HR2.o.1.frozen 0)).mono ?_;rintro e u' w'' ⟨rfl,rfl,rfl⟩;exact⟨_,ft rfl _ _ _,rfl,HR2.o.1.lock 0,HR2.o.2.setCell _ (Or.inl (by simp[foot]))⟩
theorem ND(B b:Nat)(s:aK)(g:Int)(j:Nat)(k:Int)(w:World)(h:aC B w b 0 s)(hl:s.ss.length≤12)(hf:fi (λy:Sn=>y.au==g) 0 s.ss=(j:Int))(hk:(decide (0≤k)&&decide (k<s.aL.length))=false):
 Rc 68 #[.p b,.i g,.i k] w (.tuple #[.t ⟨#[]⟩,.i 1]) λw'=>aC B w' b 0 s∧Fr (foot b s) w w':=by
 have R1:=h.lock 1;obtain⟨w1,hw1⟩:=eX (w.setCell (Ad b 0) (.int .i32 1));rw[hw1]at R1;have HL:=lock_free Tryz.muLib (Ad b 0) w h.cells.1 (h.frozen 0);have F1:Fr (foot b s) w w1:=by rw[<-hw1];exact aV b s w _
 have HF:=Hj3 hw1 R1 F1;have HR2:=Hj2 R1 F1;have HS:=aF B b 1 s g w1 R1 (by omega);rw[hf]at HS;have HC:=Hd λW=>fF B b 1 s k W;have j0:¬((j:Int)<0):=by omega
 clear h hw1 R1 F1 HR2 hf;go_enter_defers Tryz.func68,Tryz.ntmps68;go_wp2_with (first
  |(go_at_call 50;refine HL.mono ?_;rintro e w' ⟨rfl,hw'⟩;rw[HF.o.1]at hw';have hw':=hw'.symm;subst hw')
  |(go_at_call 53;refine HS.mono ?_;rintro e w2 ⟨rfl,hfr⟩;have HR2:=Hj2 (HF.o.2.1.aA hfr) (HF.o.2.2.trans hfr (by simp));clear hfr)
  |(go_at_call 52;refine(HC.o _ HR2.o.1).mono ?_;rintro e w' ⟨rfl,hw'⟩;subst w';rw[hk]))
 refine leaves_cons (f:=51) (args:=#[.pointer (some ⟨b,0,none⟩)]) (by simp) (by simp[go_sem]) ?_;refine(eK Tryz.muLib (Ad b 0) .returning _ HR2.o.1.cells.1 (HR2.o.1.frozen 0)).mono ?_;rintro e u' w'' ⟨rfl,rfl,rfl⟩;exact⟨_,ft rfl _ _ _,rfl,HR2.o.1.lock 0,HR2.o.2.setCell _ (Or.inl (by simp[foot]))⟩
theorem Gf(B b:Nat)(s:aK)(t:Int)(w:World)(h:aC B w b 0 s)(ht:t<0∨1073741824<t):
 Rc 65 #[.p b,.i t] w (.tuple #[.i 0,.i 1]) λw'=>aC B w' b 0 s∧Fr (foot b s) w w':=by
 have R1:=h.lock 1;obtain⟨w1,hw1⟩:=eX (w.setCell (Ad b 0) (.int .i32 1));rw[hw1]at R1;have HL:=lock_free Tryz.muLib (Ad b 0) w h.cells.1 (h.frozen 0);have F1:Fr (foot b s) w w1:=by rw[<-hw1];exact aV b s w _
 have HF:=Hj3 hw1 R1 F1;have HR2:=Hj2 R1 F1;clear h hw1 R1 F1;by_cases h0:t<0
 .clear ht;go_enter_defers Tryz.func65,Tryz.ntmps65;go_wp2_with (first
   |(go_at_call 50;refine HL.mono ?_;rintro e w' ⟨rfl,hw'⟩;rw[HF.o.1]at hw';have hw':=hw'.symm;subst hw'))
  refine leaves_cons (f:=51) (args:=#[.pointer (some ⟨b,0,none⟩)]) (by simp) (by simp[go_sem]) ?_;refine(eK Tryz.muLib (Ad b 0) .returning _ HR2.o.1.cells.1 (HR2.o.1.frozen 0)).mono ?_;rintro e u' w'' ⟨rfl,rfl,rfl⟩;exact⟨_,ft rfl _ _ _,rfl,HR2.o.1.lock 0,HR2.o.2.setCell _ (Or.inl (by simp[foot]))⟩
 have h1:1073741824<t:=by omega
 clear ht;go_enter_defers Tryz.func65,Tryz.ntmps65;go_wp2_with (first
  |(go_at_call 50;refine HL.mono ?_;rintro e w' ⟨rfl,hw'⟩;rw[HF.o.1]at hw';have hw':=hw'.symm;subst hw'))
 refine leaves_cons (f:=51) (args:=#[.pointer (some ⟨b,0,none⟩)]) (by simp) (by simp[go_sem]) ?_;refine(eK Tryz.muLib (Ad b 0) .returning _ HR2.o.1.cells.1 (HR2.o.1.frozen 0)).mono ?_;rintro e u' w'' ⟨rfl,rfl,rfl⟩;exact⟨_,ft rfl _ _ _,rfl,HR2.o.1.lock 0,HR2.o.2.setCell _ (Or.inl (by simp[foot]))⟩
theorem DT(B b:Nat)(s:aK)(n t:Int)(w:World)(h:aC B w b 0 s)(ht:0≤t∧t≤1073741824)(h1:1≤s.id∧s.id≤999)(h2:0≤s.taken∧s.taken≤999999)(hf:Fx s n)(hs:s.ss.length≤12)(hm:s.ms.length≤12)(hfull:s.ss.length=12∨999999<n):
 Rc 65 #[.p b,.i t] w (.tuple #[.i 0,.i 5]) λw'=>aC B w' b 0 s∧Fr (foot b s) w w':=by
 have R1:=h.lock 1;obtain⟨w1,hw1⟩:=eX (w.setCell (Ad b 0) (.int .i32 1));rw[hw1]at R1;have HL:=lock_free Tryz.muLib (Ad b 0) w h.cells.1 (h.frozen 0);have F1:Fr (foot b s) w w1:=by rw[<-hw1];exact aV b s w _
 have HF:=Hj3 hw1 R1 F1;have HR2:=Hj2 R1 F1;have HN:=Hd (xB B b 1 s n w1 R1 h1 ⟨by omega,by omega⟩ hf (by omega) (by omega));obtain⟨ao,cap,hsv⟩:=ah h.ss;obtain⟨m,hm'⟩:=eX s.ss.length;have HV:Hid (s.sv=.slice ao m cap):=by show _=_;rw[hsv,hm']
 have t1:decide (t<0)=false:=by simp;omega
 have t2:decide (t>1073741824)=false:=by simp;omega
 have vK:(12:Int)≤(m:Int)∨(1000000:Int)≤n:=by omega
 clear h R1 F1 hw1 hf hsv hm' hfull HR2;by_cases h0:(12:Int)≤(m:Int)
 .go_enter_defers Tryz.func65,Tryz.ntmps65;go_wp2_with (first
   |(go_at_call 50;refine HL.mono ?_;rintro e w' ⟨rfl,hw'⟩;rw[HF.o.1]at hw';have hw':=hw'.symm;subst hw')
   |(go_at_call 116;refine HN.o.mono ?_;rintro e w2 ⟨rfl,hfr⟩;have HR2:=Hj2 (HF.o.2.1.aA hfr) (HF.o.2.2.trans hfr (by simp));have c4:w2.cell? (Ad b 4)=some (.slice ao m cap):=by rw[<-HV.o];exact HR2.o.1.cells.2.2.2.1
     clear hfr))
  refine leaves_cons (f:=51) (args:=#[.pointer (some ⟨b,0,none⟩)]) (by simp) (by simp[go_sem]) ?_;refine(eK Tryz.muLib (Ad b 0) .returning _ HR2.o.1.cells.1 (HR2.o.1.frozen 0)).mono ?_;rintro e u' w'' ⟨rfl,rfl,rfl⟩;exact⟨_,ft rfl _ _ _,rfl,HR2.o.1.lock 0,HR2.o.2.setCell _ (Or.inl (by simp[foot]))⟩
 have h0':(1000000:Int)≤n:=by omega
 go_enter_defers Tryz.func65,Tryz.ntmps65;go_wp2_with (first
  |(go_at_call 50;refine HL.mono ?_;rintro e w' ⟨rfl,hw'⟩;rw[HF.o.1]at hw';have hw':=hw'.symm;subst hw')
  |(go_at_call 116;refine HN.o.mono ?_;rintro e w2 ⟨rfl,hfr⟩;have HR2:=Hj2 (HF.o.2.1.aA hfr) (HF.o.2.2.trans hfr (by simp));have c4:w2.cell? (Ad b 4)=some (.slice ao m cap):=by rw[<-HV.o];exact HR2.o.1.cells.2.2.2.1
    clear hfr))
 refine leaves_cons (f:=51) (args:=#[.pointer (some ⟨b,0,none⟩)]) (by simp) (by simp[go_sem]) ?_;refine(eK Tryz.muLib (Ad b 0) .returning _ HR2.o.1.cells.1 (HR2.o.1.frozen 0)).mono ?_;rintro e u' w'' ⟨rfl,rfl,rfl⟩;exact⟨_,ft rfl _ _ _,rfl,HR2.o.1.lock 0,HR2.o.2.setCell _ (Or.inl (by simp[foot]))⟩
def newS(id:Int)(n vb mb:Nat)(lv:Value):aK:=(aK.fresh id n vb mb).noted 78 (xE id n) lv
theorem qG:(Tryz.prog.info? 152).map (λi=>(i.zero,i.size,i.bytes))=some (some (.agg #[.i 0,.i 0]),2,16):=by kernel_rfl
theorem Mc(s:ak)(hd:s.dat.length=16)(hb:s.born.length=16)(v:Value):s.cells.set 37 v={s with mv:=v}.cells:=by unfold ak.cells;rw[fl _ _ (by simp),show 37 - [Value.i s.id,.i s.blocks,.i s.now,.i s.last].length=33 by simp,fl _ _ (by simp[bG,hd]),show 33-(bG s.dat).length=17 by simp[bG,hd],fl _ _ (by simp[aT,hb]),show 17-(aT s.born).length=1 by simp[aT,hb]];rfl
def ak.lC(s:ak)(ms:List (Int×Int))(mv:Value):ak:={s with ms:=ms,mv:=mv}
theorem aG.lC{B:Nat}{w:World}{b:Nat}{s:ak}(h:aG B w b s){ms:List (Int×Int)}{mv:Value}(ho:w.ownsRow B 152 2 mv ms.length (cB ms)):aG B (w.setCell (Ad b 37) mv) b (s.lC ms mv):=by
 obtain⟨a1,a2⟩:=h.apart;have hmb:∀k,mv.ownBlock=some k->k≠b:=λk hk e=>by obtain⟨_,cur,h4⟩:=av ho hk;rw[e,h.blk]at h4;simp at h4
 refine⟨?_,h.j6,h.b16,h.wf,?_,?_,h.hb⟩
 .rw[dy w b 37 _ _ _ h.blk];have:=Mc s h.j6 h.b16 mv;rw[show(s.lC ms mv).cells=({s with mv:=mv}:ak).cells from rfl,<-this];simp
 .exact aj h.sh (λk hk=>de _ _ _ _ (a1 k hk).1)
 exact aj ho (λk hk=>de _ _ _ _ (hmb k hk))
theorem mk_one{l:List (Int×Int)}:∀u∈cB l,u.oneCell'=true:=by intro u hu;simp only[cB,List.mem_flatMap,dZ]at hu;obtain⟨x,_,hx⟩:=hu;simp at hx;rcases hx with rfl|rfl<;>rfl
theorem pV{B b n j:Nat}{w w6:World}{s:ak}{mv:Value}(h:aG B w b s)(f6:Fr [] w w6)(hBw:B≤w.heap.size)(hn:s.ms.length=n)(hj:j<n)(ho:w6.ownsRow w.heap.size 152 2 mv (n-1) (cB (s.ms.take j)++cB (s.ms.drop (j+1)))):
 ∃mv',aG B (w6.setCell (Ad b 37) mv) b (s.lC (s.ms.eraseIdx j) mv')∧Fr (aN b s) w (w6.setCell (Ad b 37) mv)∧(∀k,mv'.ownBlock=some k->w.heap.size≤k):=by
 rw[<-vo]at ho;refine⟨mv,(h.aA f6).lC ?_,(f6.mono (by simp)).setCell _ (Or.inl (by simp[aN])),λk hk=>(av ho hk).1⟩;rw[gx (by omega),hn];exact⟨ho.1,ho.2.imp id λ⟨g,cap,cur,e,hb,r⟩=>⟨g,cap,cur,e,eJ hBw hb,r⟩⟩
theorem BK(B b:Nat)(s:ak)(g:Int)(j:Nat)(w:World)(h:aG B w b s)(hl:s.ms.length≤12)(hf:fi (λy:Int×Int=>y.1==g) 0 s.ms=(j:Int))(hj:j<s.ms.length):
 Rc 78 #[.p b,.i g] w (.i 0) λw'=>∃mv,aG B w' b (s.lC (s.ms.eraseIdx j) mv)∧Fr (aN b s) w w'∧(∀k,mv.ownBlock=some k->w.heap.size≤k):=by
 obtain⟨i0,hi,hz0,hz1,hz2⟩:=info_parts qG;have HS:=dP B b s g w h (by omega);rw[hf]at HS;obtain⟨ao,cap,hmv⟩:=ah h.ms;have ho:=h.ms;rw[hmv]at ho;obtain⟨gg,hgg,hcap,hcc⟩:=aB ho (by omega);subst hgg;obtain⟨n,hn⟩:=eX s.ms.length;have HO:Hid (aG B w b s∧s.mv=.slice (some (Ad gg 0)) n cap∧s.ms.length=n∧(∀t,t<n*2->w.cell? (Ad gg t)=(cB s.ms)[t]?)):=⟨h,by rw[hmv,hn],hn,by rw[<-hn];exact hcc⟩;have c37:w.cell? (Ad b 37)=some (.slice (some (Ad gg 0)) n cap):=by rw[<-hn,<-hmv];exact h.cells.2.2.2.2.2
 have hBw:B≤w.heap.size:=by have:=h.hb;have:=(h.lt b (by simp[aN])).2;omega
 have lb:=dm _ _ c37;have lg:=(h.lt gg (by simp[aN,hmv,Value.ownBlock])).2;have q1:IntKind.i64.wrap ((j:Int)+1)=(j:Int)+1:=aD ⟨by omega,by omega⟩;have j0:¬((j:Int)<0):=by omega
 rw[hn]at hcap hj hl;have i1:(j:Int)≤(n:Int):=by omega
 have i2:(j:Int)≤(cap:Int):=by omega
 have i3:(j:Int)+1≤(n:Int):=by omega
 have i4:(j:Int)+1≤(cap:Int):=by omega
 have i5:(n:Int)≤(cap:Int):=by omega
 have i6:((j:Int)+1).toNat=j+1:=by omega
 clear h hf ho hmv hcc hn;by_cases hkc:cap=j+1
 .have Yb:n=j+1:=by omega
  subst hkc Yb;go_enter Tryz.func78,Tryz.ntmps78;go_wp2_with (first
   |(go_at_call 112;refine HS.mono ?_;rintro e w' ⟨rfl,hw'⟩;subst w')
   |(at_builtin;refine wpList_append_own _ rfl _ _ 144 rfl w.heap.size 152 i0 _ 2 16 Tryz.underlying144 hi hz0 hz1 hz2 rfl (by omega) (.slice none 0 0) 0 [] rfl (eA _ _ _ _) (Ad gg 0) j (j+1) (cB (s.ms.take j)) rfl (by rw[dM,eM,HO.o.2.2.1,fN (by omega)]) (λt u hu=>by
      rw[Addr.add_lit,eV,<-jo]at*;have ht:t<j*2:=by have:=(df.1 hu).1;rw[eM]at this;omega
      rw[eQ ht]at hu;rw[HO.o.2.2.2 t (by omega)];exact hu) mk_one (by unfold maxLen;omega) (by omega) (eh _) ?_;intro v5 w5 hown5 bY _
     rw[eV,fe]at hown5;have H5:Hid (w5.ownsRow w.heap.size 152 2 v5 j (cB (s.ms.take j))∧Fr [] w w5):=⟨hown5,fR.grown bY (λx hx=>by simp[Value.ownBlock]at hx)⟩;have Yz:cD w5 b 37 (.slice (some (Ad gg 0)) (j+1) (j+1)):=H5.o.2.gb.cell c37 (by simp);obtain⟨EF,c5,e5⟩:=ah H5.o.1;subst e5;clear hown5 bY)
   |(at_builtin;refine wpList_append_own _ rfl _ _ 144 rfl w.heap.size 152 i0 _ 2 16 Tryz.underlying144 hi hz0 hz1 hz2 rfl (by omega) (.slice EF j c5) j _ rfl H5.o.1 (Ad gg 0) 0 0 [] rfl rfl (by simp) (by simp) (by unfold maxLen;omega) (by omega) (eJ (eh _) H5.o.2.size) ?_;intro v6 w6 hown6 dw _;rw[ix,gn]at hown6;have hd:cB (s.ms.drop (j+1))=[]:=by rw[jt (by rw[HO.o.2.2.1];omega)];rfl
     have H6:Hid (w6.ownsRow w.heap.size 152 2 v6 (j+1-1) (cB (s.ms.take j)++cB (s.ms.drop (j+1)))∧Fr [] w w6):=⟨by rw[hd,gn];exact hown6,H5.o.2.grown dw (λk hk=>Or.inr (av H5.o.1 hk).1)⟩;have YA:cD w6 b 37 (.slice (some (Ad gg 0)) (j+1) (j+1)):=H6.o.2.gb.cell c37 (by simp);have fz:w6.frozen? (Ad b 37)=false:=(HO.o.1.aA H6.o.2).frozen 37;obtain⟨IY,c6,e6⟩:=ah H6.o.1;subst e6;clear hown6 dw hd))
  go_ret;exact⟨rfl,pV HO.o.1 H6.o.2 hBw HO.o.2.2.1 hj H6.o.1⟩
 go_enter Tryz.func78,Tryz.ntmps78;go_wp2_with (first
  |(go_at_call 112;refine HS.mono ?_;rintro e w' ⟨rfl,hw'⟩;subst w')
  |(at_builtin;refine wpList_append_own _ rfl _ _ 144 rfl w.heap.size 152 i0 _ 2 16 Tryz.underlying144 hi hz0 hz1 hz2 rfl (by omega) (.slice none 0 0) 0 [] rfl (eA _ _ _ _) (Ad gg 0) j cap (cB (s.ms.take j)) rfl (by rw[dM,eM,HO.o.2.2.1,fN (by omega)]) (λt u hu=>by
     rw[Addr.add_lit,eV,<-jo]at*;have ht:t<j*2:=by have:=(df.1 hu).1;rw[eM]at this;omega
     rw[eQ ht]at hu;rw[HO.o.2.2.2 t (by omega)];exact hu) mk_one (by unfold maxLen;omega) (by omega) (eh _) ?_;intro v5 w5 hown5 bY _
    rw[eV,fe]at hown5;have H5:Hid (w5.ownsRow w.heap.size 152 2 v5 j (cB (s.ms.take j))∧Fr [] w w5):=⟨hown5,fR.grown bY (λx hx=>by simp[Value.ownBlock]at hx)⟩;have Yz:=H5.o.2.gb.cell c37 (by simp);obtain⟨EF,c5,e5⟩:=ah H5.o.1;subst e5;clear hown5 bY)
  |(at_builtin;refine wpList_append_own _ rfl _ _ 144 rfl w.heap.size 152 i0 _ 2 16 Tryz.underlying144 hi hz0 hz1 hz2 rfl (by omega) (.slice EF j c5) j _ rfl H5.o.1 (Ad gg ((j+1)*2)) (n-(j+1)) (cap-(j+1)) (cB (s.ms.drop (j+1))) rfl (by rw[dM,gj,HO.o.2.2.1]) (λt u hu=>by
     rw[Addr.add_lit];have ht:t<(n-(j+1))*2:=by have:=(df.1 hu).1;rw[dM,gj,HO.o.2.2.1]at this;exact this
     rw[<-om,List.getElem?_drop,<-HO.o.2.2.2 _ (by omega)]at hu;exact H5.o.2.gb.cell hu (by simp)) mk_one (by unfold maxLen;omega) (by omega) (eJ (eh _) H5.o.2.size) ?_;intro v6 w6 hown6 dw _
    rw[show j+(n-(j+1))=n-1 by omega]at hown6;have H6:=Hj2 hown6 (H5.o.2.grown dw (λk hk=>Or.inr (av H5.o.1 hk).1));have YA:=H6.o.2.gb.cell c37 (by simp);have fz:w6.frozen? (Ad b 37)=false:=(HO.o.1.aA H6.o.2).frozen 37;obtain⟨IY,c6,e6⟩:=ah H6.o.1;subst e6;clear hown6 dw))
 go_ret;exact⟨rfl,pV HO.o.1 H6.o.2 hBw HO.o.2.2.1 hj H6.o.1⟩
theorem jK:(Tryz.prog.info? 148).map (λi=>(i.size,i.bytes))=some (36,416):=by kernel_rfl
theorem oh:((Tryz.prog.info? 148).bind (λi=>i.zero)).map (λz=>z.cells.size)=some 36:=by kernel_rfl
def JK(s:ak)(g:Int):Bool:=s.sh.any (λx=>x.au==g)||s.ms.any (λx=>x.1==g)
structure DW(s:ak)(n:Int):Prop where
 lo:s.last<n
 hi:n≤s.last+25
 no:∀k,s.last<k->k<n->JK s (1000000*s.id+k)=true
 yes:JK s (1000000*s.id+n)=false
def ak.snap(s:ak)(n t:Int)(sv:Value):ak:=
 {s with now:=s.now+1,last:=n,sh:=s.sh++[⟨1000000*s.id+n,t,0,s.now+1,s.dat,s.born⟩],sv:=sv}
theorem qF(s:ak)(hd:s.dat.length=16)(hb:s.born.length=16)(v:Value):s.cells.set 36 v={s with sv:=v}.cells:=by unfold ak.cells;rw[fl _ _ (by simp),show 36 - [Value.i s.id,.i s.blocks,.i s.now,.i s.last].length=32 by simp,fl _ _ (by simp[bG,hd]),show 32-(bG s.dat).length=16 by simp[bG,hd],fl _ _ (by simp[aT,hb]),show 16-(aT s.born).length=0 by simp[aT,hb]];rfl
theorem aG.appended{B:Nat}{w w':World}{b:Nat}{s:ak}(h:aG B w b s){x:aS}(hx:x.wf){sv:Value}(ho:w'.ownsRow B 148 36 sv (s.sh.length+1) (bS s.sh++x.cells))(hg:w.grownBy w' s.sv.ownBlock):
 aG B (w'.setCell (Ad b 36) sv) b {s with sh:=s.sh++[x],sv:=sv}:=by
 obtain⟨a1,a2⟩:=h.apart;have hb:w'.heap[b]?=some (.cells s.cells.toArray 146 (0,0)):=by rw[hg.block b (h.lt b (by simp[aN])).2 (λe=>(a1 b e.symm).1 rfl)];exact h.blk
 have hsb:∀k,sv.ownBlock=some k->k≠b:=λk hk e=>by obtain⟨_,cur,h4⟩:=av ho hk;rw[e,hb]at h4;simp at h4
 refine⟨?_,h.j6,h.b16,λy hy=>?_,?_,?_,h.hb⟩
 .rw[dy w' b 36 _ _ _ hb];have:=qF s h.j6 h.b16 sv;rw[show({s with sh:=s.sh++[x],sv:=sv}:ak).cells=({s with sv:=sv}:ak).cells from rfl,<-this];simp
 .rcases dT.1 hy with hy|hy
  .exact h.wf y hy
  have:y=x:=by simpa using hy
  rw[this];exact hx
 .refine aj (w:=w') ?_ (λk hk=>de _ _ _ _ (hsb k hk));show w'.ownsRow B 148 36 sv (s.sh++[x]).length (bS (s.sh++[x]));rw[show bS (s.sh++[x])=bS s.sh++x.cells by simp[bS],dE];exact ho
 refine aj h.ms (λk hk=>?_);rw[de _ _ _ _ (a2 k hk),hg.block k (h.ms.lt k hk).2 (λe=>(a1 k e.symm).2 hk)]
theorem kT(p t q:Int)(W:World):∀(cs:List Value),cs.length=32->(Instr.build 148 #[(0,.i p),(1,.i t),(3,.i q),(4,.agg cs.toArray)]).run Tryz.prog W=.ok (.agg (.i p::.i t::.i 0::.i q::cs).toArray) W
 |a0::a1::a2::a3::a4::a5::a6::a7::a8::a9::a10::a11::a12::a13::a14::a15::a16::a17::a18::a19::a20::a21::a22::a23::a24::a25::a26::a27::a28::a29::a30::a31::[],_=>by kernel_rfl
theorem kU(W:World):∀(X:List Value),X.length=36->(Instr.buildSlice 143 1 #[(0,.agg X.toArray)]).run Tryz.prog W=.ok (.slice (some (Ad W.heap.size 0)) 1 1) (W.alloc (.cells X.toArray 148))
 |a0::a1::a2::a3::a4::a5::a6::a7::a8::a9::a10::a11::a12::a13::a14::a15::a16::a17::a18::a19::a20::a21::a22::a23::a24::a25::a26::a27::a28::a29::a30::a31::a32::a33::a34::a35::[],_=>by kernel_rfl
theorem gZ:(Tryz.prog.info? 142).map (·.size)=some 32:=by kernel_rfl
theorem aG.range{B:Nat}{w:World}{b:Nat}{s:ak}(h:aG B w b s):w.rangeAt b 4 (bG s.dat++aT s.born):=by
 intro j v hv;have hj:j<32:=by have:=(df.1 hv).1;simpa[bG,aT,h.j6,h.b16]using this
 rw[cell_of h.blk,dq];unfold ak.cells;rw[eC (by simp),show 4+j - [Value.i s.id,.i s.blocks,.i s.now,.i s.last].length=j by simp,<-jj,eS (by simp[bG,aT,h.j6,h.b16];omega)];exact hv
theorem LW(a:Addr)(W:World):(Instr.loadAt 3 (.pointer (some a))).run Tryz.prog W=(load a).run Tryz.prog W:=by simp only[Instr.loadAt,Instr.sureAddr,loadVar,Sem.run_bind,Sem.run_pure,Result.andThen_ok,Tryz.isAgg3];rfl
theorem wR(a:Addr)(W:World):(Instr.loadAt 143 (.pointer (some a))).run Tryz.prog W=(load a).run Tryz.prog W:=by simp only[Instr.loadAt,Instr.sureAddr,loadVar,Sem.run_bind,Sem.run_pure,Result.andThen_ok,Tryz.isAgg143];rfl
theorem EN{B b cap bX gg:Nat}{ao:Option Addr}{s:ak}{n t:Int}{w w1 w9:World}{X:List Value}(hR:aG B w1 b {s with now:=s.now+1,last:=n})(hF:Fr (aN b s) w w1)(hz:w1.heap.size=w.heap.size)(hsv:s.sv=.slice ao s.sh.length cap)
 (hX:(Value.i (1000000*s.id+n)::.i t::.i 0::.i (s.now+1)::(bG s.dat++aT s.born))=X)(hd:s.dat.length=16)(hb:s.born.length=16)
 (hown:w9.ownsRow B 148 36 (.slice (some (Ad gg 0)) (s.sh.length+1) bX) (s.sh.length+1) (bS s.sh++X))(hgrow:(w1.alloc (.cells X.toArray 148)).drew.grownBy w9 (Value.slice ao s.sh.length cap).ownBlock)(hat:(Value.slice ao s.sh.length cap).ownBlock=some gg∨gg=w1.heap.size+1):
 ∃sv,aG B (w9.setCell (Ad b 36) (.slice (some (Ad gg 0)) (s.sh.length+1) bX)) b (s.snap n t sv)∧Fr (aN b s) w (w9.setCell (Ad b 36) (.slice (some (Ad gg 0)) (s.sh.length+1) bX))∧(∀k,sv.ownBlock=some k->s.sv.ownBlock=some k∨w.heap.size≤k):=by
 rw[<-hsv]at hgrow hat
 have hg1:w1.grownBy w9 s.sv.ownBlock:=⟨hgrow.os,hgrow.tape,hgrow.output,by have:=hgrow.size;simp at this;omega,λk hk hne=>(hgrow.block k (by simp;omega) hne).trans (ei w1 _ k hk)⟩;have hx:(⟨1000000*s.id+n,t,0,s.now+1,s.dat,s.born⟩:aS).cells=X:=by rw[<-hX];rfl
 refine⟨_,hR.appended (x:=⟨1000000*s.id+n,t,0,s.now+1,s.dat,s.born⟩) ⟨hd,hb⟩ (by rw[hx];exact hown) hg1,(hF.grown hg1 (λk hk=>Or.inl (by simp[aN,hk]))).setCell _ (Or.inl (by simp[aN])),λk hk=>?_⟩;have e:gg=k:=by simpa[Value.ownBlock]using hk
 subst e;rcases hat with h|h
 .exact Or.inl h
 exact Or.inr (by omega)
end Go.Proofs.YtjceeemlilnplaaGreatDoor
