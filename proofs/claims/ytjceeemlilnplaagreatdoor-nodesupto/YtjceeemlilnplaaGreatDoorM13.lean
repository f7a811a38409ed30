import Derived.Test.YtjceeemlilnplaaGreatDoorM11
import Derived.Test.YtjceeemlilnplaaGreatDoorM04
import Derived.Test.YtjceeemlilnplaaGreatDoorM09
import Derived.Deep.WholeRow
set_option maxRecDepth 100000
set_option maxHeartbeats 12800000
set_option linter.all false
namespace Go.Proofs.YtjceeemlilnplaaGreatDoor
open Go.RowKit Go.Maps Go.MuLone
attribute [-go_sem] Instr.loadAt Instr.storeAt
theorem VU(a:Addr)(W:World):(Instr.loadAt 9 (.pointer (some a))).run Tryz.prog W=(load a).run Tryz.prog W:=by simp only[Instr.loadAt,Instr.sureAddr,loadVar,Sem.run_bind,Sem.run_pure,Result.andThen_ok,Tryz.isAgg9];rfl
theorem qI:(Tryz.prog.info? 148).map (·.size)=some 36:=by kernel_rfl
def iG(al:Bool)(bo:Nat->Int)(c:Int)(d:Nat->B4)(k:Nat):List (Int×B4):=(List.range k).filterMap λi=>if al||decide (c<bo i)then some ((i:Int),d i)else none
theorem uY(al:Bool)(bo:Nat->Int)(c:Int)(d:Nat->B4)(k:Nat):iG al bo c d (k+1)=iG al bo c d k++(if al||decide (c<bo k)then[((k:Int),d k)]else[]):=by unfold iG;rw[jn,List.filterMap_append];congr 1;cases h:(al||decide (c<bo k))<;>simp only[List.filterMap_cons,List.filterMap_nil,h,if_true,Bool.false_eq_true,if_false]
theorem tJ(al:Bool)(bo:Nat->Int)(c:Int)(d:Nat->B4)(k:Nat):(iG al bo c d k).length≤k:=by have:=List.length_filterMap_le (λi=>if al||decide (c<bo i)then some ((i:Int),d i)else none) (List.range k);simpa[iG]using this
theorem pR(x:aS):∀v∈x.cells,v.oneCell'=true:=λu hu=>by simp only[aS.cells,ek,dT,bG,aT,fm,fy,or_false]at hu;rcases hu with(rfl|rfl|rfl|rfl)|⟨_,_,rfl⟩|⟨_,_,rfl⟩<;>rfl
theorem zx{x:aS}(h:x.wf)(k:Nat)(hk:k<16):x.cells[20+k]?=some (.i (x.born[k]'(by rw[h.2];exact hk))):=by
 unfold aS.cells;have e1:[Value.i x.au,.i x.time,.i x.holds,.i x.came].length=4:=rfl;have e2:(bG x.dat).length=16:=by simp[bG,h.1]
 rw[eC (by rw[e1];omega),e1,eC (by rw[e2];omega),e2,show 20+k-4-16=k by omega];have:k<x.born.length:=by rw[h.2];exact hk
 simp[aT,this]
theorem EO(B b:Nat)(s:ak)(t:Int)(j:Nat)(x:aS)(d:Nat->B4)(bo:Nat->Int)(w:World)(h:aG B w b s)(hl:s.sh.length≤12)(hbl:s.blocks≤16)(hf:fi (λy:aS=>y.au==t) 0 s.sh=(j:Int))(hx:s.sh[j]?=some x)(htb:0≤t∧t<4294967296)(hxt:0≤x.time∧x.time<4294967296)
 (hd:∀k,k<s.blocks->x.dat[k]?=some (d k).ba)(Dj:∀k,k<s.blocks->x.born[k]?=some (bo k))(hc0:0<x.came):
 Rc 31 #[.p b,.i 0,.i t] w (.tuple #[.t (dN 0 t x.time s.blocks (iG true bo 0 d s.blocks)),.i 0]) λw'=>Fr [] w w':=by
 have H1:Hid (Rc 56 #[.p b,.i t] w (.i j) λw'=>w'=w):=by have h8:=aQ B b s t w h (by omega);rw[hf]at h8;exact h8
 have hj:j<s.sh.length:=(df.1 hx).1;obtain⟨ao,cap,hsv⟩:=ah h.sh;have ho:=h.sh;rw[hsv]at ho;obtain⟨gg,e',hcp,_⟩:=aB ho (by omega);subst e';have hxw:x.wf:=h.wf x (eW hx);have HC:Hid (∀W,Fr [] w W->W.cell? (Ad b 36)=some (.slice (some (Ad gg 0)) s.sh.length cap)∧W.cell? (Ad b 1)=some (.i s.blocks)∧W.cell? (Ad gg (j*36+3))=some (.i x.came)∧(Instr.loadAt 148 (.pointer (some (Ad gg (j*36))))).run Tryz.prog W=.ok (.agg x.cells.toArray) W):=λW hW=>by
  have h2:=h.aA hW;refine⟨by rw[<-hsv];exact h2.cells.2.2.2.2.1,h2.cells.2.1,?_,?_⟩
  .rw[h2.fE hsv j hj 3 (by omega),(df.1 hx).2];rfl
  exact run_loadAt_mid (P:=Tryz.prog) W gg (j*36) 148 x.cells _ (λk v hv=>by
   have hk:k<36:=by have:=(df.1 hv).1;rw[iy hxw]at this;exact this
   rw[h2.fE hsv j hj k hk,(df.1 hx).2];exact hv) Tryz.underlying148 rfl (by rw[iy hxw];exact qI)
 have Jh:∀(W:World)(z:Array Value),z.size=36->(Instr.storeAt 148 (.p W.heap.size) (.agg x.cells.toArray)).run Tryz.prog (W.alloc (.cells z 148))=.ok () (W.alloc (.cells x.cells.toArray 148)):=λW z hz=>by
  have e36:x.cells.toArray.size=36:=by simp[iy hxw]
  exact run_storeAt_new W 148 z x.cells.toArray (by rw[e36];exact qI) (by rw[hz,e36]) (all_oneCell_toArray (pR x))
 have HX:Hid (x.cells[1]?=some (.i x.time)∧(∀k,k<s.blocks->x.cells[4+k]?=some (.t (d k).ba))∧(∀k,k<s.blocks->x.cells[20+k]?=some (.i (bo k)))):=⟨rfl,λk hk=>by
  rw[wK hxw k (by omega)];have:=(df.1 (hd k hk)).2;rw[this],λk hk=>by
  rw[zx hxw k (by omega)];have:=(df.1 (Dj k hk)).2;rw[this]⟩
 have HS:Hid (aG B w b s∧s.sh.length≤12):=⟨h,hl⟩;obtain⟨X,hX⟩:=eX x.cells.toArray;obtain⟨V,hV⟩:=eX (Value.agg X);have HXB:Hid (x.cells.toArray=X):=hX;rw[hX,hV]at HC Jh;obtain⟨n,hn⟩:=eX s.sh.length;obtain⟨nb,hnb⟩:=eX s.blocks;obtain⟨xc,hxc⟩:=eX x.came;obtain⟨xt,wW⟩:∃xt:Nat,x.time=(xt:Int):=⟨x.time.toNat,by omega⟩;rw[hn,hnb,hxc]at HC;rw[hnb,wW]at HX;rw[hnb,wW];rw[hn]at hj hcp;rw[hnb]at hbl;rw[hxc]at hc0;rw[wW]at hxt;obtain⟨t',ht'⟩:∃t':Nat,t=(t':Int):=⟨t.toNat,by omega⟩;subst ht';have j0:¬(j:Int)<0:=by omega
 have j1:(j:Int)<(n:Int):=by omega
 have t1:¬(xc≤0):=by omega
 have l3:=LW;have l80:=wR;have l9:=VU;obtain⟨cZ,c1,c3,hld⟩:=HC.o w fR;clear h ho hx hf hsv hn hnb hxc wW hX hV hd Dj hl;go_enter Tryz.func31,Tryz.ntmps31;go_wp2_with (first
  |(go_at_call 56;refine H1.o.mono ?_;rintro e w' ⟨rfl,hw'⟩;have hw'':=hw'.symm;subst hw''))
 obtain⟨W1,hW1⟩:=eX (w.alloc (.cells X 148));obtain⟨bx,hbx⟩:=eX w.heap.size;have HW1:Hid (Fr [] w W1∧W1.heap[bx]?=some (.cells X 148 (0,0))):=by
  refine⟨?_,?_⟩
  .rw[<-hW1];exact Fr.alloc fR _
  rw[<-hW1,<-hbx];exact di _ _
 rw[hW1,hbx];clear hW1 hbx Jh hld c3 cZ c1;go_loopw [11,12,13] (λo m i wr=>∃k:Nat,k≤nb∧i=.i k∧m=.i ((iG true bo 0 d k).length:Nat)∧o=.string ⟨(nC (iG true bo 0 d k)).toArray⟩∧Hid (Fr [] W1 wr)) (λ_ _ i _=>nb-(intOf i).toNat)
 case atStart=>exact⟨0,dC _,rfl,rfl,rfl,fR⟩
 obtain⟨k,hk,rfl,rfl,rfl,HF⟩:=hrel;obtain⟨W3,hW3⟩:=eY wr;subst hW3;have F3:Fr [] w W3:=HW1.o.1.trans HF.o (by simp);have b3:W3.heap[bx]?=some (.cells X 148 (0,0)):=by rw[HF.o.block bx (cY.1 HW1.o.2).1 (by simp)];exact HW1.o.2
 have EP:Hid (Fr [] w W3∧W3.heap[bx]?=some (.cells X 148 (0,0))):=⟨F3,b3⟩;have ER:W3.cell? (Ad b 1)=some (.i nb):=(HC.o W3 F3).2.1;have hle:=tJ true bo 0 d k;have hsu:=uY true bo 0 d k;have hbn:=oq (iG true bo 0 d k);by_cases hlt:k<nb
 .have hltz:(k:Int)<(nb:Int):=by omega
  have k0:(0:Int)≤(k:Int):=by omega
  have k16:(k:Int)<16:=by omega
  have c4:W3.cell? (Ad bx (4+k))=some (.t (d k).ba):=by rw[cell_of b3,<-HXB.o,dq];exact HX.o.2.1 k hlt
  have c20:W3.cell? (Ad bx (20+k))=some (.i (bo k)):=by rw[cell_of b3,<-HXB.o,dq];exact HX.o.2.2 k hlt
  have Ew:Hid (∀W,Rc 58 #[.i k,.i 1] W (.t ⟨#[eH (k:Int)]⟩) λw'=>Fr [] W w'):=λW=>by have h8:=bP k 1 W (by omega) (by omega);rw[Ak]at h8;exact h8
  obtain⟨L,hL⟩:=eX (iG true bo 0 d k);rw[hL]at hle hsu hbn⊢;clear F3 b3;have hp:IntKind.i64.wrap ((L.length:Int)+1)=(L.length:Int)+1:=aD ⟨by omega,by omega⟩;have HD:Hid (∀W,Fr [] W3 W->W.cell? (Ad bx (4+k))=some (.t (d k).ba)):=λW hW=>by rw[cell_of (by rw[hW.block bx (cY.1 EP.o.2).1 (by simp)];exact EP.o.2),<-HXB.o,dq];exact HX.o.2.1 k hlt
  have HB2:Hid (∀W,Fr [] W3 W->Rc 58 #[.i k,.i 1] W (.t ⟨#[eH (k:Int)]⟩) λw'=>Fr [] W3 w'∧w'.cell? (Ad bx (4+k))=some (.t (d k).ba)):=λW hW=>(Ew.o W).mono λe w'⟨h1,h2⟩=>⟨h1,hW.trans h2 (by simp),HD.o w' (hW.trans h2 (by simp))⟩;have d4:=HD.o W3 fR;obtain⟨T,hT⟩:∃T:cC,(⟨(nC L).toArray⟩:cC)=T:=⟨_,rfl⟩;obtain⟨K,hK⟩:∃K:cC,(⟨#[eH (k:Int)]⟩:cC)=K:=⟨_,rfl⟩;obtain⟨D,xw⟩:∃D:cC,(d k).ba=D:=⟨_,rfl⟩;have sT:T.size=5*L.length:=by rw[<-hT];have h9:(nC L).length=L.length*5:=hbn;simp[ByteArray.size];omega
  have sK:K.size=1:=by rw[<-hK];rfl
  have sD:D.size=4:=by rw[<-xw];rfl
  have n1:¬9223372036854775807<T.size+K.size:=by omega
  have n2:¬9223372036854775807<T.size+K.size+D.size:=by omega
  have Nk:Hid ((⟨(nC L).toArray⟩:cC)=T∧(⟨#[eH (k:Int)]⟩:cC)=K∧(d k).ba=D):=⟨hT,hK,xw⟩;rw[hK,xw]at HB2;rw[xw]at d4;rw[hT];clear hT hK xw sT sK sD hbn;rw[show(true||decide (0<bo k))=true from rfl,if_pos rfl]at hsu;go_wp2;go_region_held3 (λw'=>w'.cell? (Ad bx (4+k))=some (.string D))
   (first|exact d4|go_keep)
   (first
     |(go_at_call 58;refine(HB2.o _ (by first|exact fR|exact fR.drew|exact fR.drewN _)).mono ?_;rintro e w5 ⟨rfl,f5,d4⟩;have H5:Hid (Fr [] W3 w5):=f5;clear f5))
  all_goals
   go_wp2;go_roundw
   case rel=>exact⟨k+1,by omega,by go_num,by rw[hsu,dE];push_cast;rfl,by rw[hsu,<-Nk.o.1,<-Nk.o.2.1,<-Nk.o.2.2];exact congrArg Value.t (mh (by simp[nC,Q7,B4.ba])),by first|exact HF.o.trans H5.o (by simp)|exact(HF.o.trans H5.o (by simp)).drew|exact(HF.o.trans H5.o (by simp)).drewN _⟩
   simp[intOf];omega
 have hkk:k=nb:=by omega
 subst hkk;have y1:W3.cell? (Ad bx 1)=some (.i xt):=by rw[cell_of b3,<-HXB.o,dq];exact HX.o.1
 have UY:Hid (∀W,Fr [] W3 W->W.cell? (Ad bx 1)=some (.i xt)∧W.cell? (Ad b 1)=some (.i k)):=λW hW=>⟨by rw[cell_of (by rw[hW.block bx (cY.1 EP.o.2).1 (by simp)];exact EP.o.2),<-HXB.o,dq];exact HX.o.1,(HC.o W (EP.o.1.trans hW (by simp))).2.1⟩;obtain⟨L,hL⟩:=eX (iG true bo 0 d k);rw[hL]at hle hbn⊢;have Yt:Hid (iG true bo 0 d k=L):=hL;have L6:∀(z:Nat),z<4294967296->∀W,Fr [] W3 W->Rc 58 #[.i z,.i 4] W (.t (n4 (z:Int)).ba) λw'=>Fr [] W3 w'∧w'.cell? (Ad bx 1)=some (.i xt)∧w'.cell? (Ad b 1)=some (.i k):=λz hz W hW=>by have h8:=bP z 4 W hz (by omega);rw[Al]at h8;exact h8.mono λe w'⟨h1,h2⟩=>⟨h1,hW.trans h2 (by simp),UY.o w' (hW.trans h2 (by simp))⟩
 have P9:∀(z:Nat),z<4294967296->∀W,Fr [] W3 W->Rc 58 #[.i z,.i 1] W (.t ⟨#[eH (z:Int)]⟩) λw'=>Fr [] W3 w'∧w'.cell? (Ad bx 1)=some (.i xt)∧w'.cell? (Ad b 1)=some (.i k):=λz hz W hW=>by have h8:=bP z 1 W hz (by omega);rw[Ak]at h8;exact h8.mono λe w'⟨h1,h2⟩=>⟨h1,hW.trans h2 (by simp),UY.o w' (hW.trans h2 (by simp))⟩
 obtain⟨F4,Ji⟩:∃F4:cC,(n4 0).ba=F4:=⟨_,rfl⟩;have Yu:Hid (∀W,Fr [] W3 W->Rc 58 #[.i 0,.i 4] W (.t F4) λw'=>Fr [] W3 w'∧w'.cell? (Ad bx 1)=some (.i xt)∧w'.cell? (Ad b 1)=some (.i k)):=by rw[<-Ji];exact L6 0 (by omega)
 obtain⟨T4,zP⟩:∃T4:cC,(n4 (t':Int)).ba=T4:=⟨_,rfl⟩;have Yv:Hid (∀W,Fr [] W3 W->Rc 58 #[.i t',.i 4] W (.t T4) λw'=>Fr [] W3 w'∧w'.cell? (Ad bx 1)=some (.i xt)∧w'.cell? (Ad b 1)=some (.i k)):=by rw[<-zP];exact L6 t' (by omega)
 obtain⟨X4,Jj⟩:∃X4:cC,(n4 (xt:Int)).ba=X4:=⟨_,rfl⟩;have QB:Hid (∀W,Fr [] W3 W->Rc 58 #[.i xt,.i 4] W (.t X4) λw'=>Fr [] W3 w'∧w'.cell? (Ad bx 1)=some (.i xt)∧w'.cell? (Ad b 1)=some (.i k)):=by rw[<-Jj];exact L6 xt (by omega)
 obtain⟨B1,hB1⟩:∃B1:cC,(⟨#[eH (k:Int)]⟩:cC)=B1:=⟨_,rfl⟩;have Yw:Hid (∀W,Fr [] W3 W->Rc 58 #[.i k,.i 1] W (.t B1) λw'=>Fr [] W3 w'∧w'.cell? (Ad bx 1)=some (.i xt)∧w'.cell? (Ad b 1)=some (.i k)):=by rw[<-hB1];exact P9 k (by omega)
 obtain⟨M1,hM1⟩:∃M1:cC,(⟨#[eH (L.length:Int)]⟩:cC)=M1:=⟨_,rfl⟩;obtain⟨ml,hml⟩:=eX L.length;have M7:Hid (∀W,Fr [] W3 W->Rc 58 #[.i ml,.i 1] W (.t M1) λw'=>Fr [] W3 w'∧w'.cell? (Ad bx 1)=some (.i xt)∧w'.cell? (Ad b 1)=some (.i k)):=by rw[<-hM1,hml];exact P9 ml (by omega)
 obtain⟨Bd,hBd⟩:∃Bd:cC,(⟨(nC L).toArray⟩:cC)=Bd:=⟨_,rfl⟩;have Mv:Hid (F4=(n4 0).ba∧T4=(n4 (t':Int)).ba∧X4=(n4 (xt:Int)).ba∧B1=⟨#[eH (k:Int)]⟩∧M1=⟨#[eH (L.length:Int)]⟩∧Bd=⟨(nC L).toArray⟩):=⟨Ji.symm,zP.symm,Jj.symm,hB1.symm,hM1.symm,hBd.symm⟩;have s1:F4.size=4:=by rw[<-Ji];rfl
 have s2:T4.size=4:=by rw[<-zP];rfl
 have s3:X4.size=4:=by rw[<-Jj];rfl
 have s4:B1.size=1:=by rw[<-hB1];rfl
 have s5:M1.size=1:=by rw[<-hM1];rfl
 have s6:Bd.size≤80:=by rw[<-hBd];have h9:(nC L).length=L.length*5:=hbn;simp[ByteArray.size];omega
 have m1:¬9223372036854775807<4+F4.size:=by omega
 have m2:¬9223372036854775807<4+F4.size+T4.size:=by omega
 have m3:¬9223372036854775807<4+F4.size+T4.size+X4.size:=by omega
 have m4:¬9223372036854775807<4+F4.size+T4.size+X4.size+B1.size:=by omega
 have m5:¬9223372036854775807<4+F4.size+T4.size+X4.size+B1.size+M1.size:=by omega
 have m6:¬9223372036854775807<4+F4.size+T4.size+X4.size+B1.size+M1.size+Bd.size:=by omega
 have UZ:Hid (∀W,Rc 59 #[.t ((⟨#[83,78,68,49]⟩:cC)++F4++T4++X4++B1++M1++Bd)] W (.t (kE ((⟨#[83,78,68,49]⟩:cC)++F4++T4++X4++B1++M1++Bd).data.toList).ba) λw'=>Fr [] W w'):=λW=>jr _ W (by simp only[fY];have:(⟨#[83,78,68,49]⟩:cC).size=4:=rfl;omega);have HST:Hid (dN 0 t' xt k L=(⟨#[83,78,68,49]⟩:cC)++F4++T4++X4++B1++M1++Bd++(kE ((⟨#[83,78,68,49]⟩:cC)++F4++T4++X4++B1++M1++Bd).data.toList).ba):=by show _=_;rw[<-Ji,<-zP,<-Jj,<-hB1,<-hM1,<-hBd];have e9:((⟨#[83,78,68,49]⟩:cC)++(n4 0).ba++(n4 (t':Int)).ba++(n4 (xt:Int)).ba++(⟨#[eH (k:Int)]⟩:cC)++(⟨#[eH (L.length:Int)]⟩:cC)++(⟨(nC L).toArray⟩:cC))=⟨(gT 0 t' xt k L).toArray⟩:=mh (by simp[gT,jJ]);rw[e9];unfold dN;simp
 obtain⟨CK,Qa⟩:∃CK:cC,(kE ((⟨#[83,78,68,49]⟩:cC)++F4++T4++X4++B1++M1++Bd).data.toList).ba=CK:=⟨_,rfl⟩;have s7:CK.size=4:=by rw[<-Qa];rfl
 have m7:¬9223372036854775807<4+F4.size+T4.size+X4.size+B1.size+M1.size+Bd.size+CK.size:=by omega
 rw[Qa]at UZ HST;rw[hml,hBd];clear Qa s7 Ji zP Jj hB1 hM1 hBd hml s1 s2 s3 s4 s5 s6 L6 P9 hbn hsu hle hL F3 b3;go_wp2;go_region_held3 (λw'=>w'.cell? (Ad bx 1)=some (.i xt)∧w'.cell? (Ad b 1)=some (.i k))
  (first|exact⟨y1,ER⟩|go_keep)
  (first
    |(go_at_call_of 58 (Value.i ml);refine(M7.o _ (by first|exact H8.o|exact H8.o.drew|exact H8.o.drewN _)).mono ?_;rintro e w9 ⟨rfl,f9,y1,ER⟩;have H9:Hid (Fr [] W3 w9):=f9;clear f9)
    |(go_at_call_of 58 (Value.i k);refine(Yw.o _ (by first|exact H7.o|exact H7.o.drew|exact H7.o.drewN _)).mono ?_;rintro e w8 ⟨rfl,f8,y1,ER⟩;have H8:Hid (Fr [] W3 w8):=f8;clear f8)
    |(go_at_call_of 58 (Value.i xt);refine(QB.o _ (by first|exact H6.o|exact H6.o.drew|exact H6.o.drewN _)).mono ?_;rintro e w7 ⟨rfl,f7,y1,ER⟩;have H7:Hid (Fr [] W3 w7):=f7;clear f7)
    |(go_at_call_of 58 (Value.i t');refine(Yv.o _ (by first|exact H5.o|exact H5.o.drew|exact H5.o.drewN _)).mono ?_;rintro e w6 ⟨rfl,f6,y1,ER⟩;have H6:Hid (Fr [] W3 w6):=f6;clear f6)
    |(go_at_call_of 58 (Value.i 0);refine(Yu.o _ (by first|exact fR|exact fR.drew|exact fR.drewN _)).mono ?_;rintro e w5 ⟨rfl,f5,y1,ER⟩;have H5:Hid (Fr [] W3 w5):=f5;clear f5))
 all_goals
  go_wp2_with (first
   |(go_at_call 59;refine(UZ.o _).mono ?_;rintro e gV ⟨rfl,f10⟩;have kW:Hid (Fr [] W3 gV):=H9.o.trans f10 (by simp);clear f10))
  go_ret2;exact⟨by rw[Yt.o,HST.o];rfl,EP.o.1.trans kW.o (by simp)⟩
theorem ES(B b:Nat)(s:ak)(t:Int)(j:Nat)(x:aS)(d:Nat->B4)(bo:Nat->Int)(w:World)(h:aG B w b s)(hl:s.sh.length≤12)(hbl:s.blocks≤16)(hf:fi (λy:aS=>y.au==t) 0 s.sh=(j:Int))(hx:s.sh[j]?=some x)(htb:0≤t∧t<4294967296)(hxt:0≤x.time∧x.time<4294967296)
 (hd:∀k,k<s.blocks->x.dat[k]?=some (d k).ba)(Dj:∀k,k<s.blocks->x.born[k]?=some (bo k))(f c:Int)(hf0:f≠0)(hfb:0≤f∧f<4294967296)(hcm:∀W,aG B W b s->Rc 57 #[.p b,.i f] W (.i c) λw'=>Fr [] W w')(hcb:0≤c)(hc0:c<x.came):
 Rc 31 #[.p b,.i f,.i t] w (.tuple #[.t (dN f t x.time s.blocks (iG false bo c d s.blocks)),.i 0]) λw'=>Fr [] w w':=by
 have H1:Hid (Rc 56 #[.p b,.i t] w (.i j) λw'=>w'=w):=by have h8:=aQ B b s t w h (by omega);rw[hf]at h8;exact h8
 have hj:j<s.sh.length:=(df.1 hx).1;obtain⟨ao,cap,hsv⟩:=ah h.sh;have ho:=h.sh;rw[hsv]at ho;obtain⟨gg,e',hcp,_⟩:=aB ho (by omega);subst e';have hxw:x.wf:=h.wf x (eW hx);have HC:Hid (∀W,Fr [] w W->W.cell? (Ad b 36)=some (.slice (some (Ad gg 0)) s.sh.length cap)∧W.cell? (Ad b 1)=some (.i s.blocks)∧W.cell? (Ad gg (j*36+3))=some (.i x.came)∧(Instr.loadAt 148 (.pointer (some (Ad gg (j*36))))).run Tryz.prog W=.ok (.agg x.cells.toArray) W):=λW hW=>by
  have h2:=h.aA hW;refine⟨by rw[<-hsv];exact h2.cells.2.2.2.2.1,h2.cells.2.1,?_,?_⟩
  .rw[h2.fE hsv j hj 3 (by omega),(df.1 hx).2];rfl
  exact run_loadAt_mid (P:=Tryz.prog) W gg (j*36) 148 x.cells _ (λk v hv=>by
   have hk:k<36:=by have:=(df.1 hv).1;rw[iy hxw]at this;exact this
   rw[h2.fE hsv j hj k hk,(df.1 hx).2];exact hv) Tryz.underlying148 rfl (by rw[iy hxw];exact qI)
 have Jh:∀(W:World)(z:Array Value),z.size=36->(Instr.storeAt 148 (.p W.heap.size) (.agg x.cells.toArray)).run Tryz.prog (W.alloc (.cells z 148))=.ok () (W.alloc (.cells x.cells.toArray 148)):=λW z hz=>by
  have e36:x.cells.toArray.size=36:=by simp[iy hxw]
  exact run_storeAt_new W 148 z x.cells.toArray (by rw[e36];exact qI) (by rw[hz,e36]) (all_oneCell_toArray (pR x))
 have HX:Hid (x.cells[1]?=some (.i x.time)∧(∀k,k<s.blocks->x.cells[4+k]?=some (.t (d k).ba))∧(∀k,k<s.blocks->x.cells[20+k]?=some (.i (bo k)))):=⟨rfl,λk hk=>by
  rw[wK hxw k (by omega)];have:=(df.1 (hd k hk)).2;rw[this],λk hk=>by
  rw[zx hxw k (by omega)];have:=(df.1 (Dj k hk)).2;rw[this]⟩
 have HS:Hid (aG B w b s∧s.sh.length≤12):=⟨h,hl⟩;obtain⟨X,hX⟩:=eX x.cells.toArray;obtain⟨V,hV⟩:=eX (Value.agg X);have HXB:Hid (x.cells.toArray=X):=hX;rw[hX,hV]at HC Jh;obtain⟨n,hn⟩:=eX s.sh.length;obtain⟨nb,hnb⟩:=eX s.blocks;obtain⟨xc,hxc⟩:=eX x.came;obtain⟨xt,wW⟩:∃xt:Nat,x.time=(xt:Int):=⟨x.time.toNat,by omega⟩;rw[hn,hnb,hxc]at HC;rw[hnb,wW]at HX;rw[hnb,wW];rw[hn]at hj hcp;rw[hnb]at hbl;rw[hxc]at hc0;rw[wW]at hxt;obtain⟨t',ht'⟩:∃t':Nat,t=(t':Int):=⟨t.toNat,by omega⟩;subst ht';obtain⟨f',hf'⟩:∃f':Nat,f=(f':Int):=⟨f.toNat,by omega⟩;subst hf';have j0:¬(j:Int)<0:=by omega
 have j1:(j:Int)<(n:Int):=by omega
 have t1:¬(xc≤c):=by omega
 have l3:=LW;have l80:=wR;have l9:=VU;obtain⟨cZ,c1,c3,hld⟩:=HC.o w fR;clear h ho hx hf hsv hn hnb hxc wW hX hV hd Dj hl;go_enter Tryz.func31,Tryz.ntmps31;go_wp2_with (first
  |(go_at_call 57;refine(hcm _ HS.o.1).mono ?_;rintro e w2 ⟨rfl,f2⟩;have H2:Hid (Fr [] w w2):=f2;obtain⟨k36,k1,k3,kld⟩:=HC.o w2 f2;clear f2)
  |(go_at_call 56;refine H1.o.mono ?_;rintro e w' ⟨rfl,hw'⟩;have hw'':=hw'.symm;subst hw''))
 obtain⟨W1,hW1⟩:=eX (w2.alloc (.cells X 148));obtain⟨bx,hbx⟩:=eX w2.heap.size;have HW1:Hid (Fr [] w W1∧W1.heap[bx]?=some (.cells X 148 (0,0))):=by
  refine⟨?_,?_⟩
  .rw[<-hW1];exact Fr.alloc (H2.o) _
  rw[<-hW1,<-hbx];exact di _ _
 rw[hW1,hbx];clear hW1 hbx Jh hld c3 cZ c1 k36 k1 k3 kld;go_loopw [11,12,13] (λo m i wr=>∃k:Nat,k≤nb∧i=.i k∧m=.i ((iG false bo c d k).length:Nat)∧o=.string ⟨(nC (iG false bo c d k)).toArray⟩∧Hid (Fr [] W1 wr)) (λ_ _ i _=>nb-(intOf i).toNat)
 case atStart=>exact⟨0,dC _,rfl,rfl,rfl,fR⟩
 obtain⟨k,hk,rfl,rfl,rfl,HF⟩:=hrel;obtain⟨W3,hW3⟩:=eY wr;subst hW3;have F3:Fr [] w W3:=HW1.o.1.trans HF.o (by simp);have b3:W3.heap[bx]?=some (.cells X 148 (0,0)):=by rw[HF.o.block bx (cY.1 HW1.o.2).1 (by simp)];exact HW1.o.2
 have EP:Hid (Fr [] w W3∧W3.heap[bx]?=some (.cells X 148 (0,0))):=⟨F3,b3⟩;have ER:W3.cell? (Ad b 1)=some (.i nb):=(HC.o W3 F3).2.1;have hle:=tJ false bo c d k;have hsu:=uY false bo c d k;have hbn:=oq (iG false bo c d k);by_cases hlt:k<nb
 .have hltz:(k:Int)<(nb:Int):=by omega
  have k0:(0:Int)≤(k:Int):=by omega
  have k16:(k:Int)<16:=by omega
  have c4:W3.cell? (Ad bx (4+k))=some (.t (d k).ba):=by rw[cell_of b3,<-HXB.o,dq];exact HX.o.2.1 k hlt
  have c20:W3.cell? (Ad bx (20+k))=some (.i (bo k)):=by rw[cell_of b3,<-HXB.o,dq];exact HX.o.2.2 k hlt
  have Ew:Hid (∀W,Rc 58 #[.i k,.i 1] W (.t ⟨#[eH (k:Int)]⟩) λw'=>Fr [] W w'):=λW=>by have h8:=bP k 1 W (by omega) (by omega);rw[Ak]at h8;exact h8
  obtain⟨L,hL⟩:=eX (iG false bo c d k);rw[hL]at hle hsu hbn⊢;clear F3 b3;have hp:IntKind.i64.wrap ((L.length:Int)+1)=(L.length:Int)+1:=aD ⟨by omega,by omega⟩;have HD:Hid (∀W,Fr [] W3 W->W.cell? (Ad bx (4+k))=some (.t (d k).ba)):=λW hW=>by rw[cell_of (by rw[hW.block bx (cY.1 EP.o.2).1 (by simp)];exact EP.o.2),<-HXB.o,dq];exact HX.o.2.1 k hlt
  have HB2:Hid (∀W,Fr [] W3 W->Rc 58 #[.i k,.i 1] W (.t ⟨#[eH (k:Int)]⟩) λw'=>Fr [] W3 w'∧w'.cell? (Ad bx (4+k))=some (.t (d k).ba)):=λW hW=>(Ew.o W).mono λe w'⟨h1,h2⟩=>⟨h1,hW.trans h2 (by simp),HD.o w' (hW.trans h2 (by simp))⟩;have d4:=HD.o W3 fR;obtain⟨T,hT⟩:∃T:cC,(⟨(nC L).toArray⟩:cC)=T:=⟨_,rfl⟩;obtain⟨K,hK⟩:∃K:cC,(⟨#[eH (k:Int)]⟩:cC)=K:=⟨_,rfl⟩;obtain⟨D,xw⟩:∃D:cC,(d k).ba=D:=⟨_,rfl⟩;have sT:T.size=5*L.length:=by rw[<-hT];have h9:(nC L).length=L.length*5:=hbn;simp[ByteArray.size];omega
  have sK:K.size=1:=by rw[<-hK];rfl
  have sD:D.size=4:=by rw[<-xw];rfl
  have n1:¬9223372036854775807<T.size+K.size:=by omega
  have n2:¬9223372036854775807<T.size+K.size+D.size:=by omega
  have Nk:Hid ((⟨(nC L).toArray⟩:cC)=T∧(⟨#[eH (k:Int)]⟩:cC)=K∧(d k).ba=D):=⟨hT,hK,xw⟩;rw[hK,xw]at HB2;rw[xw]at d4;rw[hT];clear hT hK xw sT sK sD hbn;by_cases hq:c<bo k
  .rw[show(false||decide (c<bo k))=true by simp[hq],if_pos rfl]at hsu;have t3:((f':Int)==0)=false:=by simpa using hf0
   go_wp2;go_region_held3 (λw'=>w'.cell? (Ad bx (4+k))=some (.string D))
    (first|exact d4|go_keep)
    (first
      |(go_at_call 58;refine(HB2.o _ (by first|exact fR|exact fR.drew|exact fR.drewN _)).mono ?_;rintro e w5 ⟨rfl,f5,d4⟩;have H5:Hid (Fr [] W3 w5):=f5;clear f5))
   all_goals
    go_wp2;go_roundw
    case rel=>exact⟨k+1,by omega,by go_num,by rw[hsu,dE];push_cast;rfl,by rw[hsu,<-Nk.o.1,<-Nk.o.2.1,<-Nk.o.2.2];exact congrArg Value.t (mh (by simp[nC,Q7,B4.ba])),by first|exact HF.o.trans H5.o (by simp)|exact(HF.o.trans H5.o (by simp)).drew|exact(HF.o.trans H5.o (by simp)).drewN _⟩
    simp[intOf];omega
  rw[show(false||decide (c<bo k))=false by simpa using hq,if_neg (by simp)]at hsu;have t3:((f':Int)==0)=false:=by simpa using hf0
  have hq2:¬c<bo k:=hq;go_wp2;go_roundw
  case rel=>exact⟨k+1,by omega,by go_num,by rw[hsu,gn],by rw[hsu,gn,Nk.o.1],HF.o⟩
  simp[intOf];omega
 have hkk:k=nb:=by omega
 subst hkk;have y1:W3.cell? (Ad bx 1)=some (.i xt):=by rw[cell_of b3,<-HXB.o,dq];exact HX.o.1
 have UY:Hid (∀W,Fr [] W3 W->W.cell? (Ad bx 1)=some (.i xt)∧W.cell? (Ad b 1)=some (.i k)):=λW hW=>⟨by rw[cell_of (by rw[hW.block bx (cY.1 EP.o.2).1 (by simp)];exact EP.o.2),<-HXB.o,dq];exact HX.o.1,(HC.o W (EP.o.1.trans hW (by simp))).2.1⟩;obtain⟨L,hL⟩:=eX (iG false bo c d k);rw[hL]at hle hbn⊢;have Yt:Hid (iG false bo c d k=L):=hL;have L6:∀(z:Nat),z<4294967296->∀W,Fr [] W3 W->Rc 58 #[.i z,.i 4] W (.t (n4 (z:Int)).ba) λw'=>Fr [] W3 w'∧w'.cell? (Ad bx 1)=some (.i xt)∧w'.cell? (Ad b 1)=some (.i k):=λz hz W hW=>by have h8:=bP z 4 W hz (by omega);rw[Al]at h8;exact h8.mono λe w'⟨h1,h2⟩=>⟨h1,hW.trans h2 (by simp),UY.o w' (hW.trans h2 (by simp))⟩
 have P9:∀(z:Nat),z<4294967296->∀W,Fr [] W3 W->Rc 58 #[.i z,.i 1] W (.t ⟨#[eH (z:Int)]⟩) λw'=>Fr [] W3 w'∧w'.cell? (Ad bx 1)=some (.i xt)∧w'.cell? (Ad b 1)=some (.i k):=λz hz W hW=>by have h8:=bP z 1 W hz (by omega);rw[Ak]at h8;exact h8.mono λe w'⟨h1,h2⟩=>⟨h1,hW.trans h2 (by simp),UY.o w' (hW.trans h2 (by simp))⟩
 obtain⟨F4,Ji⟩:∃F4:cC,(n4 (f':Int)).ba=F4:=⟨_,rfl⟩;have Yu:Hid (∀W,Fr [] W3 W->Rc 58 #[.i f',.i 4] W (.t F4) λw'=>Fr [] W3 w'∧w'.cell? (Ad bx 1)=some (.i xt)∧w'.cell? (Ad b 1)=some (.i k)):=by rw[<-Ji];exact L6 f' (by omega)
 obtain⟨T4,zP⟩:∃T4:cC,(n4 (t':Int)).ba=T4:=⟨_,rfl⟩;have Yv:Hid (∀W,Fr [] W3 W->Rc 58 #[.i t',.i 4] W (.t T4) λw'=>Fr [] W3 w'∧w'.cell? (Ad bx 1)=some (.i xt)∧w'.cell? (Ad b 1)=some (.i k)):=by rw[<-zP];exact L6 t' (by omega)
 obtain⟨X4,Jj⟩:∃X4:cC,(n4 (xt:Int)).ba=X4:=⟨_,rfl⟩;have QB:Hid (∀W,Fr [] W3 W->Rc 58 #[.i xt,.i 4] W (.t X4) λw'=>Fr [] W3 w'∧w'.cell? (Ad bx 1)=some (.i xt)∧w'.cell? (Ad b 1)=some (.i k)):=by rw[<-Jj];exact L6 xt (by omega)
 obtain⟨B1,hB1⟩:∃B1:cC,(⟨#[eH (k:Int)]⟩:cC)=B1:=⟨_,rfl⟩;have Yw:Hid (∀W,Fr [] W3 W->Rc 58 #[.i k,.i 1] W (.t B1) λw'=>Fr [] W3 w'∧w'.cell? (Ad bx 1)=some (.i xt)∧w'.cell? (Ad b 1)=some (.i k)):=by rw[<-hB1];exact P9 k (by omega)
 obtain⟨M1,hM1⟩:∃M1:cC,(⟨#[eH (L.length:Int)]⟩:cC)=M1:=⟨_,rfl⟩;obtain⟨ml,hml⟩:=eX L.length;have M7:Hid (∀W,Fr [] W3 W->Rc 58 #[.i ml,.i 1] W (.t M1) λw'=>Fr [] W3 w'∧w'.cell? (Ad bx 1)=some (.i xt)∧w'.cell? (Ad b 1)=some (.i k)):=by rw[<-hM1,hml];exact P9 ml (by omega)
 obtain⟨Bd,hBd⟩:∃Bd:cC,(⟨(nC L).toArray⟩:cC)=Bd:=⟨_,rfl⟩;have Mv:Hid (F4=(n4 (f':Int)).ba∧T4=(n4 (t':Int)).ba∧X4=(n4 (xt:Int)).ba∧B1=⟨#[eH (k:Int)]⟩∧M1=⟨#[eH (L.length:Int)]⟩∧Bd=⟨(nC L).toArray⟩):=⟨Ji.symm,zP.symm,Jj.symm,hB1.symm,hM1.symm,hBd.symm⟩;have s1:F4.size=4:=by rw[<-Ji];rfl
 have s2:T4.size=4:=by rw[<-zP];rfl
 have s3:X4.size=4:=by rw[<-Jj];rfl
 have s4:B1.size=1:=by rw[<-hB1];rfl
 have s5:M1.size=1:=by rw[<-hM1];rfl
 have s6:Bd.size≤80:=by rw[<-hBd];have h9:(nC L).length=L.length*5:=hbn;simp[ByteArray.size];omega
 have m1:¬9223372036854775807<4+F4.size:=by omega
 have m2:¬9223372036854775807<4+F4.size+T4.size:=by omega
 have m3:¬9223372036854775807<4+F4.size+T4.size+X4.size:=by omega
 have m4:¬9223372036854775807<4+F4.size+T4.size+X4.size+B1.size:=by omega
 have m5:¬9223372036854775807<4+F4.size+T4.size+X4.size+B1.size+M1.size:=by omega
 have m6:¬9223372036854775807<4+F4.size+T4.size+X4.size+B1.size+M1.size+Bd.size:=by omega
 have UZ:Hid (∀W,Rc 59 #[.t ((⟨#[83,78,68,49]⟩:cC)++F4++T4++X4++B1++M1++Bd)] W (.t (kE ((⟨#[83,78,68,49]⟩:cC)++F4++T4++X4++B1++M1++Bd).data.toList).ba) λw'=>Fr [] W w'):=λW=>jr _ W (by simp only[fY];have:(⟨#[83,78,68,49]⟩:cC).size=4:=rfl;omega);have HST:Hid (dN (f':Int) t' xt k L=(⟨#[83,78,68,49]⟩:cC)++F4++T4++X4++B1++M1++Bd++(kE ((⟨#[83,78,68,49]⟩:cC)++F4++T4++X4++B1++M1++Bd).data.toList).ba):=by show _=_;rw[<-Ji,<-zP,<-Jj,<-hB1,<-hM1,<-hBd];have e9:((⟨#[83,78,68,49]⟩:cC)++(n4 (f':Int)).ba++(n4 (t':Int)).ba++(n4 (xt:Int)).ba++(⟨#[eH (k:Int)]⟩:cC)++(⟨#[eH (L.length:Int)]⟩:cC)++(⟨(nC L).toArray⟩:cC))=⟨(gT (f':Int) t' xt k L).toArray⟩:=mh (by simp[gT,jJ]);rw[e9];unfold dN;simp
 obtain⟨CK,Qa⟩:∃CK:cC,(kE ((⟨#[83,78,68,49]⟩:cC)++F4++T4++X4++B1++M1++Bd).data.toList).ba=CK:=⟨_,rfl⟩;have s7:CK.size=4:=by rw[<-Qa];rfl
 have m7:¬9223372036854775807<4+F4.size+T4.size+X4.size+B1.size+M1.size+Bd.size+CK.size:=by omega
 rw[Qa]at UZ HST;rw[hml,hBd];clear Qa s7 Ji zP Jj hB1 hM1 hBd hml s1 s2 s3 s4 s5 s6 L6 P9 hbn hsu hle hL F3 b3;go_wp2;go_region_held3 (λw'=>w'.cell? (Ad bx 1)=some (.i xt)∧w'.cell? (Ad b 1)=some (.i k))
  (first|exact⟨y1,ER⟩|go_keep)
  (first
    |(go_at_call_of 58 (Value.i ml);refine(M7.o _ (by first|exact H8.o|exact H8.o.drew|exact H8.o.drewN _)).mono ?_;rintro e w9 ⟨rfl,f9,y1,ER⟩;have H9:Hid (Fr [] W3 w9):=f9;clear f9)
    |(go_at_call_of 58 (Value.i k);refine(Yw.o _ (by first|exact H7.o|exact H7.o.drew|exact H7.o.drewN _)).mono ?_;rintro e w8 ⟨rfl,f8,y1,ER⟩;have H8:Hid (Fr [] W3 w8):=f8;clear f8)
    |(go_at_call_of 58 (Value.i xt);refine(QB.o _ (by first|exact H6.o|exact H6.o.drew|exact H6.o.drewN _)).mono ?_;rintro e w7 ⟨rfl,f7,y1,ER⟩;have H7:Hid (Fr [] W3 w7):=f7;clear f7)
    |(go_at_call_of 58 (Value.i t');refine(Yv.o _ (by first|exact H5.o|exact H5.o.drew|exact H5.o.drewN _)).mono ?_;rintro e w6 ⟨rfl,f6,y1,ER⟩;have H6:Hid (Fr [] W3 w6):=f6;clear f6)
    |(go_at_call_of 58 (Value.i f');refine(Yu.o _ (by first|exact fR|exact fR.drew|exact fR.drewN _)).mono ?_;rintro e w5 ⟨rfl,f5,y1,ER⟩;have H5:Hid (Fr [] W3 w5):=f5;clear f5))
 all_goals
  go_wp2_with (first
   |(go_at_call 59;refine(UZ.o _).mono ?_;rintro e gV ⟨rfl,f10⟩;have kW:Hid (Fr [] W3 gV):=H9.o.trans f10 (by simp);clear f10))
  go_ret2;exact⟨by rw[Yt.o,HST.o];rfl,EP.o.1.trans kW.o (by simp)⟩
end Go.Proofs.YtjceeemlilnplaaGreatDoor
