import Derived.Test.YtjceeemlilnplaaGreatDoorM36
import Derived.Test.YtjceeemlilnplaaGreatDoorM35
set_option maxRecDepth 100000
set_option maxHeartbeats 12800000
set_option linter.all false
namespace Go.Proofs.YtjceeemlilnplaaGreatDoor
open Go.RowKit Go.Maps Go.MuLone
def kG(k:Int):UInt8:=if k=71 then 71 else 72
def JO(k:UInt8)(t:cC)(g:Int):cC:=bU (aW k (lP t) (lN t)++(n4 g).list')
def gU(O:gq)(x:Rp)(t:cC):cC×Rp:=
 if lO t=true∧lK t=65 then(JO 72 t (aI x.r),x)
 else if lO t=true∧lK t=68 then(JO (kG (dB O x (lS t)).1.1) t (dB O x (lS t)).1.2,(dB O x (lS t)).2)
 else(⟨#[]⟩,x)
section
variable {B xb pb b RB:Nat}{ra:Option Addr}{rc:Nat}{w w' w0 W W':World}{F F' F0 L:List Nat}{x x':Rp}{n n':Nat}{r r':ak}{O:gq}{p:Pl}
theorem KG.made{f:Nat}{args:Array Value}{R:Value}(hc:∀W F,KG p W F x n W->Rc f args W R λw'=>KG p W F x' n' w')(h:KG p w0 F0 x n W)(o1 o2:Obj)(ho:∀o z,x'.rs=x.rs∧o2=.cells o z (0,0)->z≠172)(hx:x'.rs=x.rs){c:Array Value}{z:TypeId}(h2:o2=.cells c z (0,0)):Rc f args ((W.alloc o1).alloc o2) R λw'=>w'.heap[W.heap.size+1]?=some o2∧∀i j v v',KG p w0 F0 x' n' ((w'.setCell (Ad (W.heap.size+1) i) v).setCell (Ad (W.heap.size+1) j) v'):=by
 obtain⟨F,a1,a2,a3,a4⟩:=h;have f0:Fr [] W ((W.alloc o1).alloc o2):=(fR.alloc _).alloc _;have n2:=di (W.alloc o1) o2;rw[show(W.alloc o1).heap.size=W.heap.size+1 by simp]at n2;have hB:Bk F ((W.alloc o1).alloc o2) (W.heap.size+1) o2:=⟨a1.new (by omega),n2⟩;refine(hc _ F ⟨F,a1.same f0,a2.same f0,a3.same f0,Gw.refl _ _⟩).mono ?_;rintro e w' ⟨he,F',b1,b2,b3,b4⟩;have hB':=hB.step b4;refine⟨he,hB'.2,λi j v v'=>?_⟩;have f1:Fr [W.heap.size+1] w' ((w'.setCell (Ad (W.heap.size+1) i) v).setCell (Ad (W.heap.size+1) j) v'):=(fR.setCell _ (Or.inl (by simp))).setCell _ (Or.inl (by simp));refine⟨F',⟨b1.1.fr f1 λk hk hm=>?_,b1.2⟩,⟨b2.1,(f1.block _ b2.lt ?_).trans b2.2⟩,b3.fr f1 λk hk hm=>?_,⟨?_,λk hk=>?_⟩⟩
 .simp at hm;exact hB'.1 (hm▸hk)
 .have:=a2.lt;simp;omega
 .simp at hm;obtain⟨_,cur,h4⟩:=av b3.1 hk;rw[hm,hB'.2,h2]at h4;simp at h4;exact ho c z ⟨hx,h2⟩ h4.2
 .have g1:=(a4.trans (Gw.of f0)).trans b4;have:=a4.1.size;exact(g1.1.setCell _ (Or.inr (by show w0.heap.size≤W.heap.size+1;omega))).setCell _ (Or.inr (by show w0.heap.size≤W.heap.size+1;omega))
 exact((a4.trans (Gw.of f0)).trans b4).2 k hk
theorem rE{tx:cC}:(dB O x tx).2.rs=x.rs∧(dB O x tx).2.last=x.last:=by
 unfold dB;split
 .exact⟨rfl,rfl⟩
 split<;>exact⟨rfl,rfl⟩
theorem Lb{tx:cC}:(dB O x tx).1.1=71∨(dB O x tx).1.1=72:=by
 unfold dB;split
 .exact Or.inl rfl
 split
 .exact Or.inl rfl
 exact Or.inr rfl
theorem OZ{k:Int}(hk:k=71∨k=72)(p num g:Int)(w:World):Rc 104 #[.agg #[.u k,.i p,.i num,.t ⟨#[]⟩,.i g]] w (.t (bU (aW (kG k) p num++(n4 g).list'))) λw'=>Fr [] w w':=by
 rcases hk with rfl|rfl
 .exact Gq 71 p num ⟨#[]⟩ g w rfl rfl rfl
 exact xZ 72 p num ⟨#[]⟩ g w rfl rfl
theorem KG.take(hO:bE O)(h:KG ⟨B,xb,pb,b,RB,ra,rc⟩ w0 F0 x n w)(ho:pX x)(t:cC)(hsz:t.size≤2000000)(hn:n+100≤1000000000):
 Rc 47 #[.p xb,.t t] w (.t (gU O x t).1) λw'=>KG ⟨B,xb,pb,b,RB,ra,rc⟩ w0 F0 (gU O x t).2 (n+25) w':=by
 obtain⟨P,hP⟩:∃P:Rp->Nat->World->Prop,P=KG ⟨B,xb,pb,b,RB,ra,rc⟩ w0 F0:=⟨_,rfl⟩;obtain⟨cs,hcs⟩:=eX (if lO t then lcs (lK t) (lP t) (lN t) (lS t) (lG t)else lcs 0 0 0 ⟨#[]⟩ 0);have HF:Hid (∀x n W W',P x n W->Fr [] W W'->P x n W'):=by rw[hP];exactλ_ _ _ _ h f=>h.same f
 have H0:Hid (P x n w):=by rw[hP];exact h
 have HU:Hid (∀W,P x n W->P x (n+25) W):=by rw[hP];exactλW h=>h.up (by omega)
 have HL:Hid (Rc 94 #[.t t] w (.tuple #[.agg cs,.bool (lO t)]) λw'=>Fr [] w w'):=by rw[<-hcs];exact Ij t w hsz
 have QJ:(lS t).size≤2000000:=by
  unfold lS;split
  .have:=gJ (pC t) 4;have:=gJ (pB t) 1;have:=gJ (pA t) 1;have h9:=gK (pD t).1 (pD t).1.size;have e1:(pD t).1.size≤(pC t).1.size:=gJ (pC t) 4;have e2:(pC t).1.size≤(pB t).1.size:=gJ (pB t) 1;have e3:(pB t).1.size≤t.size:=gJ (pA t) 1;omega
  exact dC _
 cases hok:lO t with
 |false=>
  have e0:gU O x t=(⟨#[]⟩,x):=by unfold gU;rw[if_neg (by rw[hok];simp),if_neg (by rw[hok];simp)]
  rw[hok]at HL hcs;rw[if_neg (by simp)]at hcs;subst hcs;rw[e0,<-hP];clear h ho hP e0 hok QJ;go_enter Tryz.func47,Tryz.ntmps47;go_wp2_with (go_at_call 94;refine HL.o.mono ?_;rintro e wa ⟨rfl,fa⟩;have Ha:=Hd (HF.o _ _ _ _ H0.o fa);clear fa);go_ret;exact⟨rfl,HU.o _ (HF.o _ _ _ _ Ha.o (fR.alloc _))⟩
 |true=>
  rw[hok]at HL hcs;rw[if_pos rfl]at hcs;obtain⟨k,hk⟩:=eX (lK t);obtain⟨q,hq⟩:=eX (lP t);obtain⟨m,hm⟩:=eX (lN t);obtain⟨S,hS⟩:=eX (lS t);obtain⟨g,hg⟩:=eX (lG t);rw[hk,hq,hm,hS,hg]at hcs;rw[hS]at QJ;by_cases k1:k=65
  .obtain⟨la,hla⟩:=eX (aI x.r);obtain⟨T2,ug⟩:=eX (bU (aW 72 q m++(n4 la).list'));have e0:gU O x t=(T2,x):=by unfold gU JO;rw[if_pos ⟨hok,hk.trans k1⟩,hq,hm,hla,ug]
   have uI:Hid (∀W,Rc 104 #[.agg #[.u 72,.i q,.i m,.t ⟨#[]⟩,.i la]] W (.t T2) λw'=>Fr [] W w'):=λW=>by rw[<-ug];exact xZ 72 q m ⟨#[]⟩ la W rfl rfl
   have jN:Hid (∀W o1 c,P x n W->Rc 88 #[.p xb] ((W.alloc o1).alloc (.cells c 192)) (.i la) λw'=>w'.heap[W.heap.size+1]?=some (.cells c 192 (0,0))∧∀i j v v',P x n ((w'.setCell (Ad (W.heap.size+1) i) v).setCell (Ad (W.heap.size+1) j) v')):=by
    rw[hP,<-hla]
    exactλW o1 c hW=>KG.made (λW F hW=>hW.newest) hW o1 _ (λo z h=>by cases h.2;decide) rfl rfl
   subst k1;rw[<-hcs]at HL;rw[e0,<-hP];clear h ho hP e0 hok QJ hcs hk hq hm hS hg hla ug hO;go_enter Tryz.func47,Tryz.ntmps47;go_wp2_with (first
    |(go_at_call 104;refine(uI.o _).mono ?_;rintro e w4 ⟨rfl,f4⟩;have H4:=Hd (HF.o _ _ _ _ (H3.o 0 4 _ _) f4);clear f4)
    |(go_at_call 88;refine(jN.o wa _ _ Ha.o).mono ?_;rintro e w3 ⟨rfl,a3,b3⟩;have H3:=Hd b3;have q0:cD w3 (wa.heap.size+1) 0 (.u 0):=ce a3 rfl;have q1:cE w3 (wa.heap.size+1) 1 q:=ce a3 rfl;have q2:cE w3 (wa.heap.size+1) 2 m:=ce a3 rfl;have q3:cD w3 (wa.heap.size+1) 3 (.t ⟨#[]⟩):=ce a3 rfl;have q4:cE w3 (wa.heap.size+1) 4 0:=ce a3 rfl;have z0:w3.frozen? (Ad (wa.heap.size+1) 0)=false:=ay a3 _;have z4:w3.frozen? (Ad (wa.heap.size+1) 4)=false:=ay a3 _;clear a3 b3)
    |(go_at_call 94;refine HL.o.mono ?_;rintro e wa ⟨rfl,fa⟩;have Ha:=Hd (HF.o _ _ _ _ H0.o fa);clear fa))
   go_ret;exact⟨rfl,HU.o _ H4.o⟩
  have Cy:(k==65)=false:=by simpa using k1
  by_cases k2:k=68
  .obtain⟨kn,hkn⟩:=eX (dB O x S).1.1;obtain⟨la,hla⟩:=eX (dB O x S).1.2;obtain⟨x',hx'⟩:=eX (dB O x S).2;obtain⟨T2,ug⟩:=eX (bU (aW (kG kn) q m++(n4 la).list'));have e0:gU O x t=(T2,x'):=by unfold gU JO;rw[if_neg (by rw[hk];exactλe=>k1 e.2),if_pos ⟨hok,hk.trans k2⟩,hS,hkn,hla,hx',hq,hm,ug]
   have uI:Hid (∀W,Rc 104 #[.agg #[.u kn,.i q,.i m,.t ⟨#[]⟩,.i la]] W (.t T2) λw'=>Fr [] W w'):=λW=>by rw[<-ug];exact OZ (by rw[<-hkn];exact Lb) q m la W
   have jN:Hid (∀W o1 c,P x n W->Rc 103 #[.p xb,.t S] ((W.alloc o1).alloc (.cells c 192)) (.tuple #[.u kn,.i la]) λw'=>w'.heap[W.heap.size+1]?=some (.cells c 192 (0,0))∧∀i j v v',P x' (n+25) ((w'.setCell (Ad (W.heap.size+1) i) v).setCell (Ad (W.heap.size+1) j) v')):=by
    rw[hP,<-hkn,<-hla,<-hx']
    exactλW o1 c hW=>KG.made (λW F hW=>hW.O1 hO ho S QJ hn) hW o1 _ (λo z h=>by cases h.2;decide) rE.1 rfl
   subst k2;rw[<-hcs]at HL;rw[e0,<-hP];clear h ho hP e0 hok QJ hcs hk hq hm hS hg hla ug hO hkn hx' k1 Cy;go_enter Tryz.func47,Tryz.ntmps47;go_wp2_with (first
    |(go_at_call 104;refine(uI.o _).mono ?_;rintro e w4 ⟨rfl,f4⟩;have H4:=Hd (HF.o _ _ _ _ (H3.o 0 4 _ _) f4);clear f4)
    |(go_at_call 103;refine(jN.o wa _ _ Ha.o).mono ?_;rintro e w3 ⟨rfl,a3,b3⟩;have H3:=Hd b3;have q0:cD w3 (wa.heap.size+1) 0 (.u 0):=ce a3 rfl;have q1:cE w3 (wa.heap.size+1) 1 q:=ce a3 rfl;have q2:cE w3 (wa.heap.size+1) 2 m:=ce a3 rfl;have q3:cD w3 (wa.heap.size+1) 3 (.t ⟨#[]⟩):=ce a3 rfl;have q4:cE w3 (wa.heap.size+1) 4 0:=ce a3 rfl;have z0:w3.frozen? (Ad (wa.heap.size+1) 0)=false:=ay a3 _;have z4:w3.frozen? (Ad (wa.heap.size+1) 4)=false:=ay a3 _;clear a3 b3)
    |(go_at_call 94;refine HL.o.mono ?_;rintro e wa ⟨rfl,fa⟩;have Ha:=Hd (HF.o _ _ _ _ H0.o fa);clear fa))
   go_ret;exact⟨rfl,H4.o⟩
  have Ep:(k==68)=false:=by simpa using k2
  have e0:gU O x t=(⟨#[]⟩,x):=by unfold gU;rw[hk,if_neg (λe=>k1 e.2),if_neg (λe=>k2 e.2)]
  rw[<-hcs]at HL;rw[e0,<-hP];clear h ho hP e0 hok QJ hcs hk hq hm hS hg hO k1 k2;go_enter Tryz.func47,Tryz.ntmps47;go_wp2_with (go_at_call 94;refine HL.o.mono ?_;rintro e wa ⟨rfl,fa⟩;have Ha:=Hd (HF.o _ _ _ _ H0.o fa);clear fa);go_ret;exact⟨rfl,HU.o _ (HF.o _ _ _ _ Ha.o ((fR.alloc _).alloc _))⟩
end
theorem TM(a b c d:UInt8):(n4 (bq [a,b,c,d]:Int)).list'=[a,b,c,d]:=by
 have ha:=a.toNat_lt;have hb:=b.toNat_lt;have hc:=c.toNat_lt;have hd:=d.toNat_lt;have key:∀(z:Int)(u:UInt8),z%256=(u.toNat:Int)->eH z=u:=λz u h=>by have:=dX z;exact UInt8.toNat_inj.1 (by omega)
 simp only[n4,B4.list',bq,List.foldl_cons,List.foldl_nil];congr 1
 .exact key _ _ (by omega)
 congr 1
 .exact key _ _ (by omega)
 congr 1
 .exact key _ _ (by omega)
 congr 1;exact key _ _ (by omega)
theorem O4{t:cC}(h:12≤t.size):(n4 (bq (t.extract 8 12).data.toList:Int)).list'=(t.extract 8 12).data.toList:=by
 have e:(t.extract 8 12).data.toList.length=4:=by rw[fk];show(t.extract 8 12).size=4;rw[eo];omega
 match(t.extract 8 12).data.toList,e with
 |[a,b,c,d],_=>exact TM a b c d
theorem TN(t:cC):bq (dU (pC t).1 4).data.toList<4294967296:=by
 have h4:(dU (pC t).1 4).data.toList.length≤4:=by have:=gK (pC t).1 4;simpa using this
 have h9:=kM (dU (pC t).1 4).data.toList _ (eh _);rw[eL (eh _)]at h9;exact hI h9 (Nat.pow_le_pow_right (by omega) h4)
theorem yR{n:Nat}{r:ak}(h:Ok n r):0≤aI r∧aI r≤999999999:=by
 have h1:=h.len.2.2.2;unfold aI;cases hx:r.sh.getLast? with
 |none=>simp
 |some x=>
  have:=h1 x (List.mem_of_getLast? hx);simp only;omega
theorem TP{t:cC}(hk:lK t=68):lS t=(pD t).1:=by unfold lS dU;rw[if_pos hk,if_neg (Nat.lt_irrefl _)];simp
theorem Ik(l:List aS)(k:Nat)(h:k<l.length):(l.take (k+1)).foldl (λm x=>max m x.time) (0:Int)=max ((l.take k).foldl (λm x=>max m x.time) 0) l[k].time:=by rw[ew h,List.foldl_append];rfl
theorem O5(k:UInt8)(q m:Int)(u:cC):((⟨#[k]⟩++⟨#[eH q]⟩++(n4 m).ba++u:cC))=bU (aW k q m++u.data.toList):=by refine gG ?_;rw[dR];simp[aW,B4.ba,B4.list']
section
variable {B xb pb b RB:Nat}{ra:Option Addr}{rc:Nat}{w w' w0 W W':World}{F F' F0 L:List Nat}{x x':Rp}{n n':Nat}{r r':ak}{O:gq}{p:Pl}
theorem KH.yS(h:KH p w0 F0 x n W):∃ao cap,(∀W',Fr [] W W'->W'.cell? (Ad p.b 36)=some (.slice ao x.r.sh.length cap))∧(0<x.r.sh.length->∃gg,ao=some (Ad gg 0)∧x.r.sh.length≤cap∧∀W',Fr [] W W'->∀k(hk:k<x.r.sh.length),W'.cell? (Ad gg (k*36+1))=some (.i x.r.sh[k].time)):=by obtain⟨F,a,_⟩:=h;obtain⟨ao,cap,TQ,hlb,hsh⟩:=a.yS;refine⟨ao,cap,λW hW=>(du (hW.block _ hlb (by simp))).trans TQ,λh0=>?_⟩;obtain⟨gg,e,hcap,hcc⟩:=hsh h0;exact⟨gg,e,hcap,λW hW k hk=>(du (hW.block gg (dm _ _ (hcc k hk).1) (by simp))).trans (hcc k hk).2⟩
theorem KH.take(hO:bE O)(h:KH ⟨B,xb,pb,b,RB,ra,rc⟩ w0 F0 x n w)(ho:pX x)(t:cC)(hsz:t.size≤2000000)(hn:n+100≤1000000000):
 Rc 48 #[.p xb,.t t] w (.t (gU O x t).1) λw'=>KH ⟨B,xb,pb,b,RB,ra,rc⟩ w0 F0 (gU O x t).2 (n+25) w':=by
 obtain⟨P,hP⟩:∃P:Rp->Nat->World->Prop,P=KH ⟨B,xb,pb,b,RB,ra,rc⟩ w0 F0:=⟨_,rfl⟩;have HF:Hid (∀x n W W',P x n W->Fr [] W W'->P x n W'):=by rw[hP];exactλ_ _ _ _ h f=>h.same f
 have H0:Hid (P x n w):=by rw[hP];exact h
 have HU:Hid (∀x n' W,P x n' W->n'≤n+25->P x (n+25) W):=by rw[hP];exactλx n' W h hk=>h.up hk
 have HC:Hid (∀x n W,P x n W->W.cell? (Ad xb 0)=some (.p b)∧W.cell? (Ad xb 2)=some (.i x.last)∧W.cell? (Ad xb 1)=some (.slice ra x.rs.length rc)):=by rw[hP];exactλx n W hW=>hW.cells
 have jN:Hid (∀x n W,P x n W->Rc 92 #[.p b] W (.i (aI x.r)) λw'=>P x n w'):=by rw[hP];exactλx n W hW=>hW.newest
 obtain⟨ok,hok⟩:∃ok,(lO t&&decide (lK t=65∨lK t=68))=ok:=⟨_,rfl⟩;have HL:Hid (Cl 98 #[.t t,.t ⟨#[65,68]⟩] w λe w'=>(∃(kk pp nn:Int)(rr:cC),e=.returned (.tuple #[.u kk,.i pp,.i nn,.t rr,.bool ok])∧(lO t=true->kk=lK t∧pp=lP t∧nn=lN t∧rr=(pD t).1))∧Fr [] w w'):=by rw[<-hok];exact pO t w hsz 65 68 (Or.inl ⟨rfl,rfl⟩)
 cases ok with
 |false=>
  have e0:gU O x t=(⟨#[]⟩,x):=by
   unfold gU;rw[if_neg,if_neg]
   .rintro⟨h1,h2⟩;rw[h1,h2]at hok;simp at hok
   rintro⟨h1,h2⟩;rw[h1,h2]at hok;simp at hok
  rw[e0,<-hP];clear h ho hP e0 hok hO;go_enter Tryz.func48,Tryz.ntmps48;go_wp2_with (go_at_call 98;refine HL.o.mono ?_;rintro e wa ⟨⟨kk,pp,nn,rr,rfl,_⟩,fa⟩;have Ha:=Hd (HF.o _ _ _ _ H0.o fa);clear fa);go_ret;exact⟨rfl,HU.o _ _ _ Ha.o (by omega)⟩
 |true=>
  rw[fh]at hok;obtain⟨hok,hkd⟩:=hok;have hkd:=km hkd;have hP1:∃q:Nat,lP t=(q:Int)∧q<256:=⟨(lP t).toNat,by have:=qE (pB t);unfold lP;omega,by have:=qE (pB t);unfold lP;omega⟩;obtain⟨qn,Cz,Lc⟩:=hP1;have hN1:∃q:Nat,lN t=(q:Int)∧q<4294967296:=⟨_,rfl,TN t⟩;obtain⟨mn,hmn,Ld⟩:=hN1;obtain⟨k,hk⟩:=eX (lK t);obtain⟨q,hq⟩:=eX (lP t);obtain⟨m,hm⟩:=eX (lN t);obtain⟨S,hS⟩:=eX (pD t).1;have HL:Hid (Rc 98 #[.t t,.t ⟨#[65,68]⟩] w (.tuple #[.u k,.i q,.i m,.t S,.bool true]) λw'=>Fr [] w w'):=HL.o.mono λe w' h9=>by obtain⟨⟨kk,pp,nn,rr,he,h9⟩,f⟩:=h9;obtain⟨rfl,rfl,rfl,rfl⟩:=h9 hok;rw[<-hk,<-hq,<-hm,<-hS];exact⟨he,f⟩
  have HB1:Hid (∀W,Rc 58 #[.i q,.i 1] W (.t ⟨#[eH q]⟩) λw'=>Fr [] W w'):=λW=>by have h9:=bP qn 1 W (by omega) (by omega);rw[Ak]at h9;rw[<-hq,Cz];exact h9
  have M7:Hid (∀W,Rc 58 #[.i m,.i 4] W (.t (n4 m).ba) λw'=>Fr [] W w'):=λW=>by have h9:=bP mn 4 W (by omega) (by omega);rw[Al]at h9;rw[<-hm,hmn];exact h9
  have QK:Hid (∀(g:Int)W,0≤g∧g≤999999999->Rc 58 #[.i g,.i 4] W (.t (n4 g).ba) λw'=>Fr [] W w'):=λg W hg=>by have h9:=bP g.toNat 4 W (by omega) (by omega);rw[Al,show((g.toNat:Nat):Int)=g by omega]at h9;exact h9
  have QL:Hid (∀x n W,P x n W->0≤aI x.r∧aI x.r≤999999999):=by rw[hP];exactλx n W hW=>yR hW.ok
  rw[hk]at hkd;by_cases k1:k=65
  .have e0:gU O x t=(bU (aW 72 q m++(n4 (aI x.r)).list'),x):=by unfold gU JO;rw[if_pos ⟨hok,hk.trans k1⟩,hq,hm]
   obtain⟨la,hla⟩:=eX (aI x.r);have TR:=QK.o la;have MQ:=QL.o x n w H0.o;rw[hla]at MQ;have TR:=Hd λW=>TR W MQ;have jN:=jN.o x n;rw[hla]at jN e0;have jN:=Hd jN;have HT:Hid ((⟨#[72]⟩++⟨#[eH q]⟩++(n4 m).ba++(n4 la).ba:cC)=bU (aW 72 q m++(n4 la).list')):=O5 72 q m (n4 la).ba;subst k1;rw[e0,<-hP];clear h ho hP e0 hO hla MQ hkd hk hq hm hS QK QL Cz hmn Lc Ld;go_enter Tryz.func48,Tryz.ntmps48;go_wp2_with (go_at_call 98;refine HL.o.mono ?_;rintro e wa ⟨rfl,fa⟩;have Ha:=Hd (HF.o _ _ _ _ H0.o fa);have c0:=(HC.o _ _ _ Ha.o).1;clear fa);go_region_held (λw'=>w'.cell? ⟨xb,0,none⟩=some (.pointer (some ⟨b,0,none⟩)))
    (first
      |go_keep
      |exact(HC.o _ _ _ (HF.o _ _ _ _ H7.o fR.drew)).1
      |exact(HC.o _ _ _ (HF.o _ _ _ _ H6.o fR.drew)).1
      |exact(HC.o _ _ _ H9.o).1
      |exact(HC.o _ _ _ H8.o).1
      |exact(HC.o _ _ _ H7.o).1
      |exact(HC.o _ _ _ H6.o).1)
    (first
      |(have g8:=H8;go_at_call_of 58 (Value.int .i64 4);clear g8;refine(TR.o _).mono ?_;rintro e w9 ⟨rfl,f9⟩;have H9:Hid (P x n w9):=HF.o _ _ _ _ (by first|exact H8.o|exact HF.o _ _ _ _ H8.o fR.drew) f9;clear f9)
      |(have g7:=H7;go_at_call 92;clear g7;refine(jN.o _ (by first|exact H7.o|exact HF.o _ _ _ _ H7.o fR.drew)).mono ?_;rintro e w8 ⟨rfl,k8⟩;have H8:=Hd k8;clear k8)
      |(have g6:=H6;go_at_call_of 58 (Value.int .i64 4);clear g6;refine(M7.o _).mono ?_;rintro e w7 ⟨rfl,f7⟩;have H7:Hid (P x n w7):=HF.o _ _ _ _ (by first|exact H6.o|exact HF.o _ _ _ _ H6.o fR.drew) f7;clear f7)
      |(go_at_call_of 58 (Value.int .i64 1);refine(HB1.o _).mono ?_;rintro e w6 ⟨rfl,f6⟩;have H6:Hid (P x n w6):=HF.o _ _ _ _ (by first|exact Ha.o|exact HF.o _ _ _ _ Ha.o fR.drew) f6;clear f6))
   all_goals
    go_wp2;refine ez (v:=.t (bU (aW 72 q m++(n4 la).list'))) ?_ rfl ⟨rfl,HU.o _ _ _ H9.o (by omega)⟩;rw[<-HT.o];simp[results,Tryz.results48,go_sem];try go_simp
  have k2:k=68:=hkd.resolve_left k1;have VH:lS t=S:=(TP (hk.trans k2)).trans hS;have hSz:S.size≤2000000:=by have:=Il t;rw[<-hS];omega
  have hkn:¬(lO t=true∧lK t=65):=λe=>k1 (hk.symm.trans e.2);have e0:gU O x t=(JO (kG (dB O x S).1.1) t (dB O x S).1.2,(dB O x S).2):=by unfold gU;rw[if_neg hkn,if_pos ⟨hok,hk.trans k2⟩,VH]
  obtain⟨hb,hpa⟩:=hO.recv x.r S (h.ok.le (by omega)) hSz;obtain⟨g,hg⟩:=eX (O.recv x.r S).1.1;obtain⟨en,hen⟩:=eX (O.recv x.r S).1.2;obtain⟨x1,hx1⟩:∃y,({x with r:=(O.recv x.r S).2}:Rp)=y:=⟨_,rfl⟩;have hr1:(O.recv x.r S).2=x1.r:=by rw[<-hx1]
  have ho1:pX x1:=by rw[<-hx1];exact⟨ho.last,ho.rs⟩
  have HR:Hid (∀W,P x n W->Rc 81 #[.p b,.t S] W (.tuple #[.i g,.i en]) λw'=>P x1 (n+1) w'):=by
   rw[hP];intro W hW;have h9:=hW.call hb;rw[hx1]at h9;have e9:fI (O.recv x.r S).1=.tuple #[.i g,.i en]:=by rw[<-hg,<-hen];rfl
   rw[e9]at h9;exact h9
  rw[hen]at hpa;subst k2;by_cases O6:en=0∨en=7
  .obtain⟨f,tt,mm,nb,l,hy,hs,hgt⟩:=hpa O6;have Xr:12≤S.size:=by have:=hs.size;omega
   have HT:Hid ((⟨#[71]⟩++⟨#[eH q]⟩++(n4 m).ba++S.extract 8 12:cC)=bU (aW 71 q m++(n4 tt).list')):=by show _=_;rw[hs.tv,O4 Xr];exact O5 71 q m _
   have ZI:(12:Int)≤(S.size:Int):=by omega
   by_cases QM:en=0
   .obtain⟨x2,hx2⟩:∃y,({x1 with r:=fq O (vQ x1.r) x1.last x1.rs x1.r}:Rp)=y:=⟨_,rfl⟩;have e9:gU O x t=(bU (aW 71 q m++(n4 tt).list'),x2):=by
     have e8:dB O x S=((71,tt),x2):=by unfold dB;rw[hen,if_pos QM,hgt QM,hr1,<-hx2,<-hx1]
     rw[e0,e8];unfold JO kG;rw[if_pos rfl,hq,hm]
    have O7:Hid (∀W,P x1 (n+1) W->Rc 91 #[.p b,.i (vQ x1.r),.i x1.last,.slice ra x1.rs.length rc] W (.tuple #[]) λw'=>P x2 (n+25) w'):=by
     rw[hP,<-hx2]
     exactλW hW=>hW.thin hO ho1 _ (Cx hW.ok) (by omega)
    have TS:Hid (∀W,P x1 (n+1) W->∃ao cap,(∀W',Fr [] W W'->W'.cell? (Ad b 36)=some (.slice ao x1.r.sh.length cap))∧(0<x1.r.sh.length->∃gg,ao=some (Ad gg 0)∧x1.r.sh.length≤cap∧∀W',Fr [] W W'->∀k(hk:k<x1.r.sh.length),W'.cell? (Ad gg (k*36+1))=some (.i x1.r.sh[k].time))):=by
     rw[hP]
     exactλW hW=>hW.yS
    have FC:Hid (∀W,P x1 (n+1) W->x1.r.sh.length≤12):=by
     rw[hP]
     exactλW hW=>hW.ok.len.1
    have ZJ:Hid (vQ x1.r=x1.r.sh.foldl (λm x=>max m x.time) 0):=rfl;subst QM;rw[e9,<-hP];obtain⟨nn,hnn⟩:=eX x1.r.sh.length;have VI:=Hd hnn;obtain⟨rg,hrg⟩:=eX (vQ x1.r);rw[hrg]at O7 ZJ;obtain⟨la,hla⟩:=eX x1.last;obtain⟨rl,hrl⟩:=eX x1.rs.length;have zN:Hid (∀n W,P x1 n W->W.cell? (Ad xb 0)=some (.p b)∧W.cell? (Ad xb 2)=some (.i la)∧W.cell? (Ad xb 1)=some (.slice ra rl rc)):=by
     rw[<-hla,<-hrl]
     exactλn W hW=>HC.o x1 n W hW
    have yE:Hid (∀n W,P x2 n W->W.cell? (Ad xb 0)=some (.p b)∧W.cell? (Ad xb 2)=some (.i la)∧W.cell? (Ad xb 1)=some (.slice ra rl rc)):=by
     rw[<-hla,<-hrl];have e1:x2.last=x1.last∧x2.rs=x1.rs:=by rw[<-hx2];exact⟨rfl,rfl⟩
     rw[<-e1.1,<-e1.2]
     exactλn W hW=>HC.o x2 n W hW
    rw[hla,hrl]at O7;rw[hnn]at FC;clear h ho hP hO hk hq hm hS QK QL Cz hmn Lc Ld hpa hb hg hen hx1 hr1 ho1 hx2 e9 e0 VH hSz hkn hkd k1 O6 hy hs hgt hnn hrg hla hrl jN;have c0:=(HC.o x n w H0.o).1;go_enter Tryz.func48,Tryz.ntmps48;go_wp2_with (first
     |(go_at_call 81;refine(HR.o _ (by first|exact Ha.o|exact HF.o _ _ _ _ Ha.o fR.drew)).mono ?_;rintro e w3 ⟨rfl,k3⟩;have H3:=Hd k3;clear k3 c0a)
     |(go_at_call 98;refine HL.o.mono ?_;rintro e wa ⟨rfl,fa⟩;have Ha:=Hd (HF.o _ _ _ _ H0.o fa);have c0a:=(HC.o _ _ _ Ha.o).1;clear fa c0))
    obtain⟨ao,cap,Xt,ZK⟩:=TS.o w3 H3.o;rw[VI.o]at Xt;have Ho:=Hd Xt;have HS2:=Hd ZK;have KP:=FC.o w3 H3.o;clear Xt ZK;go_loopw [12,13] (λm i wr=>∃k:Nat,k≤nn∧i=.i k∧m=.i ((x1.r.sh.take k).foldl (λm x=>max m x.time) 0)∧Hid (Fr [] w3 wr)) (λ_ i _=>nn-(intOf i).toNat)
    case atStart=>exact⟨0,dC _,rfl,rfl,fR⟩
    obtain⟨k,hk,rfl,rfl,HK⟩:=hrel;obtain⟨W3,hW3⟩:=eY wr;subst hW3;have H4:=Hd (HF.o _ _ _ _ H3.o HK.o);obtain⟨c0,c2,c1⟩:=zN.o _ _ H4.o;have cZ:=Ho.o W3 HK.o;by_cases hlt:k<nn
    .have hltz:(k:Int)<(nn:Int):=by omega
     have hkl:k<x1.r.sh.length:=by rw[VI.o];exact hlt
     obtain⟨gg,hgg,hcap,hcc⟩:=HS2.o (by omega);have d1:=hcc W3 HK.o k hkl;have hsu:=Ik x1.r.sh k hkl;subst hgg;obtain⟨mx,hmx⟩:=eX ((x1.r.sh.take k).foldl (λm x=>max m x.time) (0:Int));obtain⟨tm,CB⟩:=eX x1.r.sh[k].time;rw[hmx,CB]at hsu;rw[CB]at d1;rw[hmx];have ZL:nn≤cap:=by rw[<-VI.o];exact hcap
     have M8:=Hd hsu;clear hcc hsu hkl hmx CB hcap;go_wp2;go_roundw
     case rel=>exact⟨k+1,by omega,by go_num,by rw[M8.o],by first|exact HK|exact HK.o.drew⟩
     simp[intOf];omega
    have hkk:k=nn:=by omega
    have hltz:¬(k:Int)<(nn:Int):=by omega
    have e:x1.r.sh.take k=x1.r.sh:=eL (by rw[VI.o];omega);rw[e,<-ZJ.o];clear e hkk;go_wp2;go_region_held (λw'=>w'.cell? ⟨xb,0,none⟩=some (.pointer (some ⟨b,0,none⟩))∧w'.cell? ⟨xb,2,none⟩=some (.int .i64 la)∧w'.cell? ⟨xb,1,none⟩=some (.slice ra rl rc))
     (first|exact⟨c0,c2,c1⟩|exact⟨d0,d2,d1⟩|go_keep)
     (first
       |(go_at_call 91;refine(O7.o _ (by first|exact H4.o|exact HF.o _ _ _ _ H4.o fR.drew)).mono ?_;rintro e w5 ⟨rfl,k5⟩;have H5:=Hd k5;obtain⟨d0,d2,d1⟩:=yE.o _ _ k5;clear k5))
    all_goals
     go_wp2;go_region_held (λw'=>True)
      (first|trivial|go_keep)
      (first
        |(have g6:=H6;go_at_call_of 58 (Value.int .i64 4);clear g6;refine(M7.o _).mono ?_;rintro e w7 ⟨rfl,f7⟩;have H7:Hid (P x2 (n+25) w7):=HF.o _ _ _ _ (by first|exact H6.o|exact HF.o _ _ _ _ H6.o fR.drew) f7;clear f7)
        |(go_at_call_of 58 (Value.int .i64 1);refine(HB1.o _).mono ?_;rintro e w6 ⟨rfl,f6⟩;have H6:Hid (P x2 (n+25) w6):=HF.o _ _ _ _ (by first|exact H5.o|exact HF.o _ _ _ _ H5.o fR.drew) f6;clear f6))
     all_goals
      go_wp2;refine ez (v:=.t (bU (aW 71 q m++(n4 tt).list'))) ?_ rfl ⟨rfl,H7.o⟩;rw[<-HT.o];simp[results,Tryz.results48,go_sem];try go_simp
   have e7:en=7:=O6.resolve_left QM;have e9:gU O x t=(bU (aW 71 q m++(n4 tt).list'),x1):=by
    have e8:dB O x S=((71,tt),x1):=by unfold dB;rw[hen,if_neg QM,if_pos e7,<-hs.tv,hx1]
    rw[e0,e8];unfold JO kG;rw[if_pos rfl,hq,hm]
   subst e7;rw[e9,<-hP];clear h ho hP hO hk hq hm hS QK QL Cz hmn Lc Ld hpa hb hg hen hx1 hr1 ho1 e9 e0 VH hSz hkn hkd k1 O6 hy hs hgt jN QM;have c0:=(HC.o x n w H0.o).1;go_enter Tryz.func48,Tryz.ntmps48;go_wp2_with (first
    |(go_at_call 81;refine(HR.o _ (by first|exact Ha.o|exact HF.o _ _ _ _ Ha.o fR.drew)).mono ?_;rintro e w3 ⟨rfl,k3⟩;have H5:=Hd k3;clear k3 c0a)
    |(go_at_call 98;refine HL.o.mono ?_;rintro e wa ⟨rfl,fa⟩;have Ha:=Hd (HF.o _ _ _ _ H0.o fa);have c0a:=(HC.o _ _ _ Ha.o).1;clear fa c0))
   go_region_held (λw'=>True)
    (first|trivial|go_keep)
    (first
      |(have g6:=H6;go_at_call_of 58 (Value.int .i64 4);clear g6;refine(M7.o _).mono ?_;rintro e w7 ⟨rfl,f7⟩;have H7:Hid (P x1 (n+1) w7):=HF.o _ _ _ _ (by first|exact H6.o|exact HF.o _ _ _ _ H6.o fR.drew) f7;clear f7)
      |(go_at_call_of 58 (Value.int .i64 1);refine(HB1.o _).mono ?_;rintro e w6 ⟨rfl,f6⟩;have H6:Hid (P x1 (n+1) w6):=HF.o _ _ _ _ (by first|exact H5.o|exact HF.o _ _ _ _ H5.o fR.drew) f6;clear f6))
   all_goals
    go_wp2;refine ez (v:=.t (bU (aW 71 q m++(n4 tt).list'))) ?_ rfl ⟨rfl,HU.o _ _ _ H7.o (by omega)⟩;rw[<-HT.o];simp[results,Tryz.results48,go_sem];try go_simp
  have n0:en≠0:=λe=>O6 (Or.inl e);have n7:en≠7:=λe=>O6 (Or.inr e);obtain⟨la,hla⟩:=eX (aI x1.r);have e9:gU O x t=(bU (aW 72 q m++(n4 la).list'),x1):=by
   have e8:dB O x S=((72,la),x1):=by unfold dB;rw[hen,if_neg n0,if_neg n7,hr1,hla,<-hr1,hx1]
   rw[e0,e8];unfold JO kG;rw[if_neg (show ¬((72:Int)=71) by decide),hq,hm]
  have q0:(en==0)=false:=by simpa using n0
  have q7:(en==7)=false:=by simpa using n7
  have TR:Hid (∀W W',P x1 (n+1) W'->Rc 58 #[.i la,.i 4] W (.t (n4 la).ba) λw'=>Fr [] W w'):=λW W' h9=>by have MQ:=QL.o x1 (n+1) W' h9;rw[hla]at MQ;exact QK.o la W MQ
  have jN:=jN.o x1 (n+1);rw[hla]at jN;have jN:=Hd jN;have HT:Hid ((⟨#[72]⟩++⟨#[eH q]⟩++(n4 m).ba++(n4 la).ba:cC)=bU (aW 72 q m++(n4 la).list')):=O5 72 q m (n4 la).ba;rw[e9,<-hP];clear h ho hP hO hk hq hm hS QK QL Cz hmn Lc Ld hpa hb hg hen hx1 hr1 ho1 e9 e0 VH hSz hkn hkd k1 O6 n0 n7 hla;have c0:=(HC.o x n w H0.o).1;go_enter Tryz.func48,Tryz.ntmps48;go_wp2_with (first
   |(go_at_call 81;refine(HR.o _ (by first|exact Ha.o|exact HF.o _ _ _ _ Ha.o fR.drew)).mono ?_;rintro e w3 ⟨rfl,k3⟩;have H5:=Hd k3;have c0b:=(HC.o _ _ _ H5.o).1;clear k3 c0a)
   |(go_at_call 98;refine HL.o.mono ?_;rintro e wa ⟨rfl,fa⟩;have Ha:=Hd (HF.o _ _ _ _ H0.o fa);have c0a:=(HC.o _ _ _ Ha.o).1;clear fa c0))
  go_region_held (λw'=>w'.cell? ⟨xb,0,none⟩=some (.pointer (some ⟨b,0,none⟩)))
   (first
     |go_keep
     |exact(HC.o _ _ _ (HF.o _ _ _ _ H7.o fR.drew)).1
     |exact(HC.o _ _ _ (HF.o _ _ _ _ H6.o fR.drew)).1
     |exact(HC.o _ _ _ H9.o).1
     |exact(HC.o _ _ _ H8.o).1
     |exact(HC.o _ _ _ H7.o).1
     |exact(HC.o _ _ _ H6.o).1)
   (first
     |(have g8:=H8;go_at_call_of 58 (Value.int .i64 4);clear g8;refine(TR.o _ _ H8.o).mono ?_;rintro e w9 ⟨rfl,f9⟩;have H9:Hid (P x1 (n+1) w9):=HF.o _ _ _ _ (by first|exact H8.o|exact HF.o _ _ _ _ H8.o fR.drew) f9;clear f9)
     |(have g7:=H7;go_at_call 92;clear g7;refine(jN.o _ (by first|exact H7.o|exact HF.o _ _ _ _ H7.o fR.drew)).mono ?_;rintro e w8 ⟨rfl,k8⟩;have H8:=Hd k8;clear k8)
     |(have g6:=H6;go_at_call_of 58 (Value.int .i64 4);clear g6;refine(M7.o _).mono ?_;rintro e w7 ⟨rfl,f7⟩;have H7:Hid (P x1 (n+1) w7):=HF.o _ _ _ _ (by first|exact H6.o|exact HF.o _ _ _ _ H6.o fR.drew) f7;clear f7)
     |(go_at_call_of 58 (Value.int .i64 1);refine(HB1.o _).mono ?_;rintro e w6 ⟨rfl,f6⟩;have H6:Hid (P x1 (n+1) w6):=HF.o _ _ _ _ (by first|exact H5.o|exact HF.o _ _ _ _ H5.o fR.drew) f6;clear f6))
  all_goals
   go_wp2;refine ez (v:=.t (bU (aW 72 q m++(n4 la).list'))) ?_ rfl ⟨rfl,HU.o _ _ _ H9.o (by omega)⟩;rw[<-HT.o];simp[results,Tryz.results48,go_sem];try go_simp
end
def Pr.fx(p:Pr):Int×Int×Int×Int:=(p.num,p.since,p.wait,p.tries)
def Sz(s s':Sc):Prop:=(∃r ps,s'={s with r:=r,ps:=ps})∧s'.ps.map Pr.fx=s.ps.map Pr.fx
def qh(np:Nat)(l:List (Int×cC)):Prop:=l.length≤3∧∀x∈l,(0≤x.1∧x.1<np)∧x.2.size≤2000
section
variable {s s' s'':Sc}{O:gq}{i:Nat}{g:Int}{q:Pr}{r:ak}{K:Int}
theorem Sz.refl(s:Sc):Sz s s:=⟨⟨s.r,s.ps,rfl⟩,rfl⟩
theorem Sz.trans(h:Sz s s')(h':Sz s' s''):Sz s s'':=by obtain⟨⟨r,ps,rfl⟩,h2⟩:=h;obtain⟨⟨r',ps',rfl⟩,h4⟩:=h';exact⟨⟨r',ps',rfl⟩,h4.trans h2⟩
theorem Iw(hq:q.fx=(s.pr i).fx):(s.ps.set i q).map Pr.fx=s.ps.map Pr.fx:=by
 rw[List.map_set,hq];by_cases h:i<s.ps.length
 .rw[Sc.dn h];have:(s.ps.map Pr.fx)[i]'(by simpa using h)=s.ps[i].fx:=by simp
  rw[<-this,List.set_getElem_self]
 rw[List.set_eq_of_length_le (by simpa using Nat.le_of_not_lt h)]
theorem Sz.put(hq:q.fx=(s.pr i).fx)(r:ak):Sz s {s with r:=r,ps:=s.ps.set i q}:=⟨⟨r,_,rfl⟩,Iw hq⟩
theorem Sz.set(hq:q.fx=(s.pr i).fx):Sz s (s.aX i q):=⟨⟨s.r,_,rfl⟩,Iw hq⟩
theorem Sz.ofR(r:ak):Sz s {s with r:=r}:=⟨⟨r,s.ps,rfl⟩,rfl⟩
theorem Sz.len(h:Sz s s'):s'.ps.length=s.ps.length:=by simpa using congrArg List.length h.2
theorem Sz.ok(h:Sz s s')(ho:fG s)(hK:gI s K):fG s'∧gI s' K:=by
 have hl:=h.len;have hm:∀p∈s'.ps,∃p0∈s.ps,p0.fx=p.fx:=λp hp=>by
  have:p.fx∈s.ps.map Pr.fx:=by rw[<-h.2];exact jb hp
  exact fm.1 this
 obtain⟨⟨r,ps,rfl⟩,_⟩:=h;refine⟨⟨ho.every,ho.wait,ho.last,ho.rs,ho.time,by rw[hl];exact ho.ps,λp hp=>?_⟩,λp hp=>?_⟩
 .obtain⟨p0,h0,e⟩:=hm p hp;have:=ho.pr p0 h0;simp only[Pr.fx,Prod.mk.injEq]at e;rw[<-e.1,<-e.2.1,<-e.2.2.1,<-e.2.2.2];exact this
 obtain⟨p0,h0,e⟩:=hm p hp;have:=hK p0 h0;simp only[Pr.fx,Prod.mk.injEq]at e;rw[<-e.1];exact this
theorem rZ:Sz s (bN O s i):=by
 unfold bN;split
 .exact Sz.refl s
 exact Sz.put (q:={s.pr i with sent:=0}) rfl _
theorem yY:Sz s (bO O s i g):=by
 unfold bO;split
 .exact Sz.put (q:={s.pr i with known:=g}) rfl _
 exact Sz.put (q:={s.pr i with known:=g}) rfl _
theorem CO:Sz s (jU O s i):=(Sz.set (q:={s.pr i with wt:=false,gave:=aI s.r}) rfl).trans rZ
theorem CP{aim:Int}:Sz s (fU O s i aim).2:=by
 unfold fU;split
 .split
  .exact Sz.put (q:={s.pr i with sent:=aim}) rfl _
  exact Sz.ofR _
 exact Sz.set (q:={s.pr i with sent:=aim}) rfl
theorem Iy:Sz s (jG O (iV O s i g) i g):=by
 have h1:Sz s (iV O s i g):=by
  unfold iV;split
  .exact yY
  exact Sz.refl s
 refine h1.trans ?_;unfold jG;split
 .exact rZ
 exact Sz.refl _
theorem Am(l:List UInt8):(bU l).size=l.length:=lW l
theorem oQ(k:UInt8)(p num:Int):(aW k p num).length=6:=by simp[aW,B4.list']
def Nx(s s':Sc):Prop:=(∀K,fG s->gI s K->K+1≤4000000000->fG s'∧gI s' (K+1))∧s'.ps.length=s.ps.length∧s'.rs=s.rs
theorem Sz.rs(h:Sz s s'):s'.rs=s.rs:=by obtain⟨⟨r,ps,rfl⟩,_⟩:=h;rfl
theorem Sz.nx(h:Sz s s'):Nx s s':=⟨λK ho hK hk=>⟨(h.ok ho hK).1,λp hp=>by have:=(h.ok ho hK).2 p hp;omega⟩,h.len,h.rs⟩
theorem Iz{aim:Int}(hO:bE O)(hr:Ok 1000000000 s.r)(hi:i<s.ps.length):Nx s (jX O s i g aim).2∧qh s.ps.length (jX O s i g aim).1:=by
 unfold jX;split
 .split
  .obtain⟨s1,hs1⟩:=eX (fU O s i aim).2;have hz:Sz s s1:=by rw[<-hs1];exact CP
   rw[hs1];have hsz:=(hO.send s.r g aim hr).1;refine⟨⟨λK ho hK hk=>?_,?_,hz.rs⟩,by simp,λx hx=>?_⟩
   .obtain⟨ho1,hK1⟩:=hz.ok ho hK;have hl:=hz.len;obtain⟨⟨r,ps,e⟩,_⟩:=hz;have hi1:i<s1.ps.length:=by omega
    have hp:=ho1.at hi1;have hw:=ho.wait;have ht:=ho.time;have et:s1.time=s.time:=by rw[e]
    refine⟨⟨ho1.every,ho1.wait,ho1.last,ho1.rs,ho1.time,by show 1≤(s1.ps.set i _).length∧(s1.ps.set i _).length≤3;rw[eR];exact ho1.ps,λp hp'=>?_⟩,λp hp'=>?_⟩
    .rcases ik hp' with h9|rfl
     .exact ho1.pr p h9
     have h8:(s1.pr i).num≤K:=hK1 _ (by rw[Sc.dn hi1];exact eE hi1);show(0≤(s1.pr i).num+1∧(s1.pr i).num+1≤_)∧(0≤s.time∧s.time≤s1.time)∧(0≤s.wait∧s.wait≤_)∧0≤(s1.pr i).tries∧(s1.pr i).tries≤s1.time;omega
    rcases ik hp' with h9|rfl
    .have:=hK1 p h9;omega
    have h8:(s1.pr i).num≤K:=hK1 _ (by rw[Sc.dn hi1];exact eE hi1);show(s1.pr i).num+1≤K+1;omega
   .show(s1.ps.set i _).length=_;rw[eR];exact hz.len
   have e:x=((i:Int),AV s1 i (O.send s.r g aim).1):=by simpa using hx
   rw[e];refine⟨⟨by show(0:Int)≤(i:Int);omega,by show(i:Int)<_;omega⟩,?_⟩;show(bU _).size≤2000;rw[Am,dE,oQ,fk];have:(O.send s.r g aim).1.data.size=(O.send s.r g aim).1.size:=rfl;omega
  exact⟨(CP.trans CO).nx,by simp[qh]⟩
 exact⟨CO.nx,by simp[qh]⟩
theorem Nx.of(h:Sz s s')(h':Nx s' s''):Nx s s'':=⟨λK ho hK hk=>by obtain⟨h1,h2⟩:=h.ok ho hK;exact h'.1 K h1 h2 hk,h'.2.1.trans h.len,h'.2.2.trans h.rs⟩
theorem IB{n:Nat}(hO:bE O)(hr:Ok n s.r)(hn:n+2≤1000000000):Ok (n+2) (bO O s i g).r:=by
 have h1:Ok (n+1) (bB O s i g).r:=(hO.mark s.r g (hr.le (by omega))).2.2 n hr;unfold bO;split
 .exact h1.le (by omega)
 exact(hO.yG _ _ (h1.le (by omega))).1.2.2 _ h1
theorem IC{n:Nat}(hO:bE O)(hr:Ok n s.r)(hn:n≤1000000000):Ok (n+1) (bN O s i).r:=by
 unfold bN;split
 .exact hr.le (by omega)
 exact(hO.rel s.r _ (hr.le (by omega))).1.2.2 n hr
theorem IE{n:Nat}(hO:bE O)(hr:Ok n s.r)(hn:n+10≤1000000000)(hi:i<s.ps.length):Nx s (iU O s i g).2∧qh s.ps.length (iU O s i g).1:=by
 unfold iU;obtain⟨s2,hs2⟩:=eX (jG O (iV O s i g) i g);have hz:Sz s s2:=by rw[<-hs2];exact Iy
 have hr2:Ok 1000000000 s2.r:=by
  have h1:Ok (n+2) (iV O s i g).r:=by
   unfold iV;split
   .exact IB hO hr (by omega)
   exact hr.le (by omega)
  have h2:Ok (n+3) s2.r:=by
   rw[<-hs2];unfold jG;split
   .exact IC hO h1 (by omega)
   exact h1.le (by omega)
  exact h2.le (by omega)
 rw[hs2];unfold bZ;split
 .exact⟨(hz.trans (Sz.set (q:={s2.pr i with wt:=false}) rfl)).nx,by simp[qh]⟩
 have h9:=Iz (g:=g) (aim:=La s2 i) hO hr2 (i:=i) (by rw[hz.len];exact hi);rw[hz.len]at h9;exact⟨Nx.of hz h9.1,h9.2⟩
theorem GA{n:Nat}{i:Int}{t:cC}(hO:bE O)(hr:Ok n s.r)(hn:n+10≤1000000000):Nx s (bI O s i t).2∧qh s.ps.length (bI O s i t).1:=by
 unfold bI;split
 .rename_i hc;unfold take1;split
  .split
   .exact⟨(Sz.set (q:={s.pr i.toNat with wt:=false}) rfl).nx,by simp[qh]⟩
   exact IE hO hr hn (by omega)
  split
  .refine⟨((yY.trans rZ).trans (Sz.set (i:=i.toNat) (q:={(bN O (bO O s i.toNat (lG t)) i.toNat).pr i.toNat with wt:=false}) rfl)).nx,by simp[qh]⟩
  exact⟨(Sz.refl s).nx,by simp[qh]⟩
 exact⟨(Sz.refl s).nx,by simp[qh]⟩
theorem Lx{nw:Int}(k:Nat)(hk:k≤s.ps.length):∀x∈(aP nw s k).1,(0≤x.1∧x.1<s.ps.length)∧x.2.size≤2000:=by
 induction k with
 |zero=>simp[aP]
 |succ k ih=>
  unfold aP;split
  .intro x hx;rcases dT.1 hx with h|h
   .exact ih (by omega) x h
   have e:x=((k:Int),bU (aW 65 k (((aP nw s k).2.pr k).num+1))):=by simpa using h
   rw[e];exact⟨⟨by show(0:Int)≤(k:Int);omega,by show(k:Int)<_;omega⟩,by show(bU _).size≤2000;rw[Am,oQ];omega⟩
  exact ih (by omega)
theorem lX:Nx s (bC O s).2∧(fG s->∀K,gI s K->K+1≤4000000000->qh s.ps.length (bC O s).1):=by
 have hl:(bC O s).2.ps.length=s.ps.length:=by
  unfold bC;split
  .rfl
  rw[(eG _).2];unfold fM;split<;>rfl
 have hrs:(bC O s).2.rs=s.rs:=by
  unfold bC;split
  .rfl
  rw[(eG _).1];unfold fM;split<;>rfl
 refine⟨⟨λK ho hK hk=>?_,hl,hrs⟩,λho K hK hk=>⟨(yU (O:=O) ho hK hk).2.2,?_⟩⟩
 .have h9:=yU (O:=O) ho hK hk;exact⟨h9.1,h9.2.1⟩
 unfold bC;split
 .simp
 have e:(fM O s).ps.length=s.ps.length:=by unfold fM;split<;>rfl
 rw[<-e];exact Lx _ (eh _)
end
end Go.Proofs.YtjceeemlilnplaaGreatDoor
