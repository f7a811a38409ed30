import Derived.Test.YtjceeemlilnplaaGreatDoorM31
import Derived.Test.YtjceeemlilnplaaGreatDoorM29
set_option maxRecDepth 100000
set_option maxHeartbeats 12800000
set_option linter.all false
namespace Go.Proofs.YtjceeemlilnplaaGreatDoor
open Go.RowKit Go.Maps Go.MuLone
def aP(nw:Int)(s:Sc):Nat->List (Int×cC)×Sc
 |0=>([],s)
 |k+1=>if jh ((aP nw s k).2.pr k) s.time nw then((aP nw s k).1++[((k:Int),bU (aW 65 k (((aP nw s k).2.pr k).num+1)))],mP (aP nw s k).2 k)else aP nw s k
def fM(O:gq)(s:Sc):Sc:=if(s.time+1)%s.every=0 then{s with time:=s.time+1,r:=(O.snap (fq O (s.time+1) s.last s.rs s.r) (s.time+1)).2}else{s with time:=s.time+1}
def bC(O:gq)(s:Sc):List (Int×cC)×Sc:=if 1073741824≤s.time then([],s)else aP (aI (fM O s).r) (fM O s) s.ps.length
def gI(s:Sc)(K:Int):Prop:=∀p∈s.ps,p.num≤K
section
variable {B xb pb b RB:Nat}{ra:Option Addr}{rc:Nat}{w w' w0 W W':World}{F F' F0 L:List Nat}{s:Sc}{n n':Nat}{r r':ak}{O:gq}{p:Pl}{i:Nat}{nw:Int}
theorem eG(k:Nat):(aP nw s k).2={s with ps:=(aP nw s k).2.ps}∧(aP nw s k).2.ps.length=s.ps.length:=by
 induction k with
 |zero=>exact⟨rfl,rfl⟩
 |succ k ih=>
  unfold aP;split
  .refine⟨?_,?_⟩
   .show(mP (aP nw s k).2 k)={s with ps:=(mP (aP nw s k).2 k).ps};unfold mP Sc.aX;rw[ih.1]
   show(List.set _ _ _).length=_;rw[eR];exact ih.2
  exact ih
theorem Ll(k j:Nat)(h:k≤j):(aP nw s k).2.pr j=s.pr j:=by
 induction k with
 |zero=>rfl
 |succ k ih=>
  unfold aP;split
  .have e:∀q,((aP nw s k).2.aX k q).pr j=(aP nw s k).2.pr j:=λq=>by unfold Sc.pr Sc.aX;simp only[List.getD_eq_getElem?_getD];rw[List.getElem?_set_ne (by omega)]
   show(mP (aP nw s k).2 k).pr j=_;unfold mP;rw[e];exact ih (by omega)
  exact ih (by omega)
theorem Lp(ho:fG s)(hi:i<s.ps.length){K:Int}(hK:gI s K)(hn:(s.pr i).num+1≤K)(JW:K≤4000000000)(ht:(s.pr i).tries+1≤s.time):fG (mP s i)∧gI (mP s i) K:=by
 have hp:=ho.at hi;have hw:=ho.wait;have CB:=ho.time;refine⟨⟨ho.every,ho.wait,ho.last,ho.rs,ho.time,by show 1≤(s.ps.set i _).length∧(s.ps.set i _).length≤3;rw[eR];exact ho.ps,λq hq=>?_⟩,λq hq=>?_⟩
 .rcases ik hq with h|rfl
  .exact ho.pr q h
  have h2:=qy ⟨hw.1,hw.2.1⟩ (s.pr i).tr2;refine⟨⟨?_,?_⟩,⟨?_,gm _⟩,⟨?_,?_⟩,?_,?_⟩
  .show 0≤(s.pr i).num+1;omega
  .show(s.pr i).num+1≤_;omega
  .show 0≤s.time;omega
  .show 0≤gN _ _ _;omega
  .show gN _ _ _≤1000;omega
  .show(0:Int)≤((s.pr i).tr2:Int);omega
  show((s.pr i).tr2:Int)≤s.time;unfold Pr.tr2;split<;>omega
 rcases ik hq with h|rfl
 .exact hK q h
 exact hn
theorem nX(ho:fG s){K:Int}(hK:gI s K)(JW:K+1≤4000000000)(ht:∀q∈s.ps,q.tries+1≤s.time)(k:Nat)(hk:k≤s.ps.length):fG (aP nw s k).2∧gI (aP nw s k).2 (K+1)∧(aP nw s k).1.length≤k:=by
 induction k with
 |zero=>exact⟨ho,λq hq=>by have:=hK q hq;omega,eh _⟩
 |succ k ih=>
  obtain⟨h1,h2,h3⟩:=ih (by omega);have hk':k<s.ps.length:=by omega
  have e:=Ll (nw:=nw) (s:=s) k k (eh _);have hm:s.pr k∈s.ps:=by rw[Sc.dn hk'];exact eE hk'
  unfold aP;split
  .have h4:=Lp h1 (i:=k) (by rw[(eG k).2];exact hk') h2 (by rw[e];have:=hK _ hm;omega) JW (by rw[e];have:=ht _ hm;rw[(eG k).1];exact this);exact⟨h4.1,h4.2,by rw[dE];simp;omega⟩
  exact⟨h1,h2,by omega⟩
theorem rY(ho:fG s)(ht:¬1073741824≤s.time){K:Int}(hK:gI s K):fG (fM O s)∧gI (fM O s) K∧(∀q∈(fM O s).ps,q.tries+1≤(fM O s).time)∧(fM O s).ps=s.ps∧(fM O s).time=s.time+1∧(fM O s).wait=s.wait∧(fM O s).cap=s.cap:=by
 have CB:=ho.time;have hp:∀q∈s.ps,(0≤q.num∧q.num≤4000000000)∧(0≤q.since∧q.since≤s.time+1)∧(0≤q.wait∧q.wait≤1000)∧0≤q.tries∧q.tries≤s.time+1:=λq hq=>by have:=ho.pr q hq;omega
 have hq:∀q∈s.ps,q.tries+1≤s.time+1:=λq hq=>by have:=ho.pr q hq;omega
 unfold fM;split
 .exact⟨⟨ho.every,ho.wait,ho.last,ho.rs,⟨by show 0≤s.time+1;omega,by show s.time+1≤_;omega⟩,ho.ps,hp⟩,hK,hq,rfl,rfl,rfl,rfl⟩
 exact⟨⟨ho.every,ho.wait,ho.last,ho.rs,⟨by show 0≤s.time+1;omega,by show s.time+1≤_;omega⟩,ho.ps,hp⟩,hK,hq,rfl,rfl,rfl,rfl⟩
theorem yU(ho:fG s){K:Int}(hK:gI s K)(JW:K+1≤4000000000):fG (bC O s).2∧gI (bC O s).2 (K+1)∧(bC O s).1.length≤3:=by
 unfold bC;split
 .exact⟨ho,λq hq=>by have:=hK q hq;omega,by simp⟩
 rename_i ht;obtain⟨h1,h2,h3,h4,_⟩:=rY (O:=O) ho ht hK;have h9:=nX (nw:=aI (fM O s).r) h1 h2 JW h3 s.ps.length (by rw[h4];exact eh _);exact⟨h9.1,h9.2.1,by have:=ho.ps;omega⟩
theorem yV(l:List (Int×cC))(k:Int)(T:cC):iO (l++[(k,T)])=iO l++[.i k,.t T]:=by simp[iO]
theorem CF:(Tryz.prog.info? 186).map (λi=>(i.zero,i.size,i.bytes))=some (some (.agg #[.i 0,.t ⟨#[]⟩]),2,24):=by kernel_rfl
theorem SP.grown(h:SP B xb pb b RB ra rc W F s n){v:Value}{base k:Nat}{cs:List Value}(hg:W.grownBy W' v.ownBlock)(ho:Ow F W base 186 2 v k cs):SP B xb pb b RB ra rc W' F s n:=by
 have hf:Fr v.ownBlock.toList W W':=fR.grown hg (λk hk=>Or.inl (by simp[hk]));cases e:v.ownBlock with
 |none=>
  rw[e]at hf;exact h.same hf
 |some y=>
  rw[e]at hf;obtain⟨_,cur,h4⟩:=av ho.1 e;refine h.mG hf (ho.2 y e) (λe9=>?_) (λe9=>?_) h4 (by decide)
  .rw[<-e9,h.blk.2]at h4;simp[xP]at h4
  rw[<-e9,h.pr.2]at h4;simp at h4
theorem SR.grown(h:SR B xb pb b RB ra rc W F s n){v:Value}{base k:Nat}{cs:List Value}(hg:W.grownBy W' v.ownBlock)(ho:Ow F W base 186 2 v k cs):SR B xb pb b RB ra rc W' F s n:=by
 have hf:Fr v.ownBlock.toList W W':=fR.grown hg (λk hk=>Or.inl (by simp[hk]));cases e:v.ownBlock with
 |none=>
  rw[e]at hf;exact h.same hf
 |some y=>
  rw[e]at hf;obtain⟨_,cur,h4⟩:=av ho.1 e;refine h.mG hf (ho.2 y e) (λe9=>?_) (λe9=>?_) h4 (by decide)
  .rw[<-e9,h.blk.2]at h4;simp[xR]at h4
  rw[<-e9,h.pr.2]at h4;simp at h4
section
variable {v v':Value}{ls:List (Int×cC)}
theorem PO.same(h:PO p w0 F0 s n v ls W)(f:Fr [] W W'):PO p w0 F0 s n v ls W':=by obtain⟨F,h,g,o⟩:=h;exact⟨F,h.same f,g.trans (Gw.of f),o.same f⟩
theorem RO.same(h:RO p w0 F0 s n v ls W)(f:Fr [] W W'):RO p w0 F0 s n v ls W':=by obtain⟨F,h,g,o⟩:=h;exact⟨F,h.same f,g.trans (Gw.of f),o.same f⟩
theorem PO.pg(h:PO p w0 F0 s n v ls W):PG p w0 F0 s n W:=by obtain⟨F,h,g,o⟩:=h;exact⟨F,h,g⟩
theorem RO.rg(h:RO p w0 F0 s n v ls W):RG p w0 F0 s n W:=by obtain⟨F,h,g,o⟩:=h;exact⟨F,h,g⟩
theorem PO.own(h:PO p w0 F0 s n v ls W):W.ownsRow w0.heap.size 186 2 v ls.length (iO ls)∧w0.heap.size≤W.heap.size:=by obtain⟨F,h,g,o⟩:=h;exact⟨o.1,g.1.size⟩
theorem RO.own(h:RO p w0 F0 s n v ls W):W.ownsRow w0.heap.size 186 2 v ls.length (iO ls)∧w0.heap.size≤W.heap.size:=by obtain⟨F,h,g,o⟩:=h;exact⟨o.1,g.1.size⟩
theorem PO.push(h:PO p w0 F0 s n v ls W){k:Int}{T:cC}{g c:Nat}(ho:W'.ownsRow w0.heap.size 186 2 (.slice (some (Ad g 0)) (ls.length+1) c) (ls.length+1) (iO ls++[.i k,.t T]))(hg:W.grownBy W' v.ownBlock)(hl:v.ownBlock=some g∨g=W.heap.size):PO p w0 F0 s n (.slice (some (Ad g 0)) (ls.length+1) c) (ls++[(k,T)]) W':=by
 obtain⟨F,h,gw,o⟩:=h;refine⟨F,h.grown hg o,⟨gw.1.grown hg (λy hy=>Or.inr (av o.1 hy).1),gw.2⟩,?_,λy hy=>?_⟩
 .rw[yV,dE];exact ho
 have e:g=y:=by simpa[Value.ownBlock]using hy
 subst e;rcases hl with h1|h1
 .exact o.2 g h1
 exact h.sk.new (by omega)
theorem RO.push(h:RO p w0 F0 s n v ls W){k:Int}{T:cC}{g c:Nat}(ho:W'.ownsRow w0.heap.size 186 2 (.slice (some (Ad g 0)) (ls.length+1) c) (ls.length+1) (iO ls++[.i k,.t T]))(hg:W.grownBy W' v.ownBlock)(hl:v.ownBlock=some g∨g=W.heap.size):RO p w0 F0 s n (.slice (some (Ad g 0)) (ls.length+1) c) (ls++[(k,T)]) W':=by
 obtain⟨F,h,gw,o⟩:=h;refine⟨F,h.grown hg o,⟨gw.1.grown hg (λy hy=>Or.inr (av o.1 hy).1),gw.2⟩,?_,λy hy=>?_⟩
 .rw[yV,dE];exact ho
 have e:g=y:=by simpa[Value.ownBlock]using hy
 subst e;rcases hl with h1|h1
 .exact o.2 g h1
 exact h.sk.new (by omega)
theorem PO.ask(h:PO ⟨B,xb,pb,b,RB,ra,rc⟩ w0 F0 s n v ls W)(ho:fG s)(hi:i<s.ps.length):Rc 90 #[.p xb,.i i] W (.agg #[.i i,.t (bU (aW 65 i ((s.pr i).num+1)))]) λw'=>PO ⟨B,xb,pb,b,RB,ra,rc⟩ w0 F0 (mP s i) n v ls w':=by
 obtain⟨F,h,g,o⟩:=h;refine(SA h ho hi).mono ?_;rintro e w' ⟨he,k',g'⟩;refine⟨he,F,k',g.trans g',aj o.1 (λy hy=>g'.1.block y (o.1.lt y hy).2 (λhm=>?_)),o.2⟩;obtain⟨_,cur,h4⟩:=av o.1 hy;simp only[fL,fe,ek]at hm;rcases hm with e9|e9|e9
 .rw[e9,h.blk.2]at h4;simp[xP]at h4
 .rw[e9,h.pr.2]at h4;simp at h4
 exact o.2 y hy e9
theorem RO.asks(h:RO ⟨B,xb,pb,b,RB,ra,rc⟩ w0 F0 s n v ls W)(hi:i<s.ps.length)(hl:s.ps.length≤3)(wait:Int)(jM:0≤(s.pr i).num∧(s.pr i).num<4294967295):Rc 93 #[.p xb,.i i,.i wait] W (.agg #[.i i,.t (bU (aW 65 i ((s.pr i).num+1)))]) λw'=>RO ⟨B,xb,pb,b,RB,ra,rc⟩ w0 F0 (s.aX i ((s.pr i).asked s.time wait)) n v ls w':=by
 obtain⟨F,h,g,o⟩:=h;refine(Ob h hi hl wait jM).mono ?_;rintro e w' ⟨he,k',g'⟩;refine⟨he,F,k',g.trans g',aj o.1 (λy hy=>g'.1.block y (o.1.lt y hy).2 (λhm=>?_)),o.2⟩;obtain⟨_,cur,h4⟩:=av o.1 hy;simp only[fL,fe,ek]at hm;rcases hm with e9|e9|e9
 .rw[e9,h.blk.2]at h4;simp[xR]at h4
 .rw[e9,h.pr.2]at h4;simp at h4
 exact o.2 y hy e9
theorem PG.due(h:PG ⟨B,xb,pb,b,RB,ra,rc⟩ w0 F0 s n W)(hi:i<s.ps.length)(ti nw:Int):Rc 89 #[.pointer (some (Ad pb (i*7))),.i ti,.i nw] W (.bool (jh (s.pr i) ti nw)) λw'=>Fr [] W w':=by obtain⟨F,h,g⟩:=h;exact SL h hi ti nw
theorem PG.thin(hO:bE O)(h:PG ⟨B,xb,pb,b,RB,ra,rc⟩ w0 F0 s n W)(ho:fG s)(hn:n+60≤1000000000):Rc 87 #[.p xb,.i s.time] W (.tuple #[]) λw'=>PG ⟨B,xb,pb,b,RB,ra,rc⟩ w0 F0 {s with r:=fq O s.time s.last s.rs s.r} (n+24) w':=by obtain⟨F,h,g⟩:=h;have hl:=ho.last;refine(Ih O hO B b xb RB n _ _ s.last s.time ra s.rs rc W F s.r h.sk h.blk ⟨rfl,rfl,rfl⟩ h.ru ho.rs ⟨by omega,by omega⟩ ho.time hn).mono ?_;rintro e w' ⟨he,F',k',g'⟩;exact⟨he,F',h.step k' g',g.trans (g'.lift _)⟩
theorem RG.thin(hO:bE O)(h:RG ⟨B,xb,pb,b,RB,ra,rc⟩ w0 F0 s n W)(ho:fG s)(hn:n+60≤1000000000):Rc 91 #[.p b,.i s.time,.i s.last,.slice ra s.rs.length rc] W (.tuple #[]) λw'=>RG ⟨B,xb,pb,b,RB,ra,rc⟩ w0 F0 {s with r:=fq O s.time s.last s.rs s.r} (n+24) w':=by obtain⟨F,h,g⟩:=h;have hl:=ho.last;refine(Ii O hO B b RB n s.last s.time ra s.rs rc W F s.r h.sk h.ru ho.rs ⟨by omega,by omega⟩ ho.time hn).mono ?_;rintro e w' ⟨he,F',k',g'⟩;exact⟨he,F',h.step k' g',g.trans (g'.lift _)⟩
end
end
def A8(O:gq)(s:Sc)(i:Nat)(g:Int):Sc:=(bN O (bO O s i g) i).aX i {(bN O (bO O s i g) i).pr i with wt:=false}
def take1(O:gq)(s:Sc)(i:Nat)(k g:Int):List (Int×cC)×Sc:=
 if k=72 then(if(s.pr i).dt then([],s.aX i {s.pr i with wt:=false})else iU O s i g)
 else(if k=71∧(s.pr i).dt=true∧g=(s.pr i).sent then([],A8 O s i g)else([],s))
def bI(O:gq)(s:Sc)(i:Int)(t:cC):List (Int×cC)×Sc:=
 if(0≤i∧i<s.ps.length)∧lO t=true∧lP t=i∧(s.pr i.toNat).wt=true∧(s.pr i.toNat).num=lN t then take1 O s i.toNat (lK t) (lG t)else([],s)
section
variable {B xb pb b RB:Nat}{ra:Option Addr}{rc:Nat}{w w' w0 W W':World}{F F' F0 L:List Nat}{s:Sc}{n n':Nat}{r r':ak}{O:gq}{p:Pl}
theorem PG.Lr(h:PG ⟨B,xb,pb,b,RB,ra,rc⟩ w0 F0 s n W)(i:Int):Rc 49 #[.p xb,.i i] W (.bool (decide (0≤i)&&decide (i<s.ps.length))) λw'=>w'=W:=by obtain⟨F,h,g⟩:=h;exact uK h i
theorem PG.take(hO:bE O)(h:PG ⟨B,xb,pb,b,RB,ra,rc⟩ w0 F0 s n w)(ho:fG s)(i:Int)(t:cC)(hsz:t.size≤2000000)(hn:n+40≤1000000000):
 Cl 45 #[.p xb,.i i,.t t] w λe w'=>∃v,e=.returned v∧PO ⟨B,xb,pb,b,RB,ra,rc⟩ w0 F0 (bI O s i t).2 (n+6) v (bI O s i t).1 w':=by
 obtain⟨P,hP⟩:∃P:Sc->Nat->World->Prop,P=PG ⟨B,xb,pb,b,RB,ra,rc⟩ w0 F0:=⟨_,rfl⟩;obtain⟨PR,kY⟩:∃PR:Value->World->Prop,PR=λv W=>PO ⟨B,xb,pb,b,RB,ra,rc⟩ w0 F0 (bI O s i t).2 (n+6) v (bI O s i t).1 W:=⟨_,rfl⟩;show Cl 45 _ w λe w'=>∃v,e=.returned v∧(λv W=>PO ⟨B,xb,pb,b,RB,ra,rc⟩ w0 F0 (bI O s i t).2 (n+6) v (bI O s i t).1 W) v w';rw[<-kY];obtain⟨cs,hcs⟩:=eX (if lO t then lcs (lK t) (lP t) (lN t) (lS t) (lG t)else lcs 0 0 0 ⟨#[]⟩ 0);have HF:Hid (∀s n W W',P s n W->Fr [] W W'->P s n W'):=by rw[hP];exactλ_ _ _ _ h f=>h.same f
 have H0:Hid (P s n w):=by rw[hP];exact h
 have HL:Hid (Rc 94 #[.t t] w (.tuple #[.agg cs,.bool (lO t)]) λw'=>Fr [] w w'):=by rw[<-hcs];exact Ij t w hsz
 have Et:Hid (∀W,P s n W->Rc 49 #[.p xb,.i i] W (.bool (decide (0≤i)&&decide (i<s.ps.length))) λw'=>w'=W):=by
  rw[hP]
  exactλW hW=>hW.Lr i
 have lV:Hid (bI O s i t=([],s)->∀W,P s n W->PR (.slice none 0 0) W):=λe W hW=>by rw[kY,e];rw[hP]at hW;exact(hW.up (by omega)).o
 by_cases hpr:0≤i∧i<s.ps.length
 .obtain⟨j,rfl⟩:∃j:Nat,i=(j:Int):=⟨i.toNat,by omega⟩;have hj:j<s.ps.length:=by omega
  rw[show(decide ((0:Int)≤(j:Int))&&decide ((j:Int)<(s.ps.length:Int)))=true by simp;omega]at Et;cases hok:lO t with
  |false=>
   have e0:bI O s j t=([],s):=by unfold bI;rw[if_neg (by rw[hok];simp)]
   have HN:=lV.o e0;rw[hok]at HL hcs;rw[if_neg (by simp)]at hcs;subst hcs;have HN:=Hd HN;clear h ho hP kY lV e0 hpr hj hok;go_enter Tryz.func45,Tryz.ntmps45;go_wp2_with (first
    |(go_at_call 49;refine(Et.o _ (HF.o _ _ _ _ Ha.o (fR.alloc _))).mono ?_;rintro e w' ⟨rfl,hw'⟩;subst w')
    |(go_at_call 94;refine HL.o.mono ?_;rintro e wa ⟨rfl,fa⟩;have Ha:=Hd (HF.o _ _ _ _ H0.o fa);clear fa))
   go_ret;exact⟨_,rfl,HN.o _ (HF.o _ _ _ _ Ha.o (fR.alloc _))⟩
  |true=>
   rw[hok]at HL hcs;rw[if_pos rfl]at hcs;obtain⟨k,hk⟩:=eX (lK t);obtain⟨q,hq⟩:=eX (lP t);obtain⟨m,hm⟩:=eX (lN t);obtain⟨S,hS⟩:=eX (lS t);obtain⟨g,hg⟩:=eX (lG t);rw[hk,hq,hm,hS,hg]at hcs;rw[<-hcs]at HL;obtain⟨pp,hpp⟩:=eX (s.pr j);obtain⟨ln,hln⟩:=eX s.ps.length;have HT:Hid (bI O s j t=if q=j∧pp.wt=true∧pp.num=m then take1 O s j k g else([],s)):=by
    show bI O s j t=_;unfold bI;rw[show((j:Int)).toNat=j by omega,hpp,hk,hq,hm,hg];by_cases hc:q=j∧pp.wt=true∧pp.num=m
    .rw[if_pos hc,if_pos ⟨hpr,hok,hc⟩]
    rw[if_neg hc,if_neg (λh=>hc h.2.2)]
   have HC:Hid (∀W,P s n W->W.cell? (Ad xb 7)=some (.slice (some (Ad pb 0)) ln ln)∧W.cell? (Ad pb (j*7+4))=some (.u pp.aw)∧W.frozen? (Ad pb (j*7+4))=false∧W.cell? (Ad pb (j*7+3))=some (.i pp.num)∧W.cell? (Ad pb (j*7+1))=some (.i pp.sent)):=by rw[hP,<-hpp,<-hln];intro W hW;exact⟨hW.dI.2.2.2.1,(hW.aR hj 4 (by omega)).1,(hW.aR hj 4 (by omega)).2,(hW.aR hj 3 (by omega)).1,(hW.aR hj 1 (by omega)).1⟩
   have hjl:(j:Int)<(ln:Int):=by omega
   have hj0:(0:Int)≤(j:Int):=by omega
   have HS:Hid (bI O s j t=iU O s j g->∀W,P s n W->Cl 95 #[.p xb,.i j,.i g] W λe w'=>∃v,e=.returned v∧PR v w'):=λe W hW=>by rw[hP]at hW;rw[kY,e];exact hW.send hO ho hj g (by omega)
   have HE:Hid (bI O s j t=([],s.aX j {s.pr j with wt:=false})->∀W,P s n W->PR (.slice none 0 0) (W.setCell (Ad pb (j*7+4)) (.u 0))):=λe W hW=>by rw[hP]at hW;rw[kY,e];exact((hW.set hj 4 (by omega) (.u 0) {s.pr j with wt:=false} rfl).up (by omega)).o
   obtain⟨s1,hs1⟩:=eX (bO O s j g);obtain⟨s2,hs2⟩:=eX (bN O s1 j);have hj1:j<s1.ps.length:=by rw[<-hs1,rV];exact hj
   have hj2:j<s2.ps.length:=by rw[<-hs2,rU];exact hj1
   have FC:Hid (∀W,P s n W->Rc 96 #[.p xb,.i j,.i g] W (.tuple #[]) λw'=>P s1 (n+2) w'):=by
    rw[hP,<-hs1]
    exactλW hW=>hW.learn hO hj ho.ps.2 g (by omega)
   have OU:Hid (∀W,P s1 (n+2) W->Rc 97 #[.p xb,.pointer (some (Ad pb (j*7)))] W (.tuple #[]) λw'=>P s2 (n+3) w'∧(∃a:Int,w'.cell? (Ad pb (j*7+4))=some (.u a))∧w'.frozen? (Ad pb (j*7+4))=false):=by rw[hP,<-hs2];intro W hW;refine(hW.forget hO hj1 (by omega)).mono ?_;rintro e w' ⟨he,k'⟩;have h9:=k'.aR (i:=j) (by rw[hs2];exact hj2) 4 (by omega);exact⟨he,k',⟨_,h9.1⟩,h9.2⟩
   have HG:Hid (bI O s j t=([],A8 O s j g)->∀W,P s2 (n+3) W->PR (.slice none 0 0) (W.setCell (Ad pb (j*7+4)) (.u 0))):=λe W hW=>by rw[hP]at hW;rw[kY,e];unfold A8;rw[hs1,hs2];exact((hW.set hj2 4 (by omega) (.u 0) {s2.pr j with wt:=false} rfl).up (by omega)).o
   have HT1:Hid (take1 O s j k g=if k=72 then(if pp.dt then([],s.aX j {s.pr j with wt:=false})else iU O s j g)else(if k=71∧pp.dt=true∧g=pp.sent then([],A8 O s j g)else([],s))):=by show take1 O s j k g=_;unfold take1;rw[hpp]
   obtain⟨aw,haw⟩:=eX pp.aw;obtain⟨nu,hnu⟩:=eX pp.num;obtain⟨sn,hsn⟩:=eX pp.sent;have jC:aw=if pp.wt then(if pp.dt then 68 else 65)else 0:=by rw[<-haw];rfl
   rw[haw,hnu,hsn]at HC;rw[hnu]at HT;rw[hsn]at HT1;clear h ho hP kY hpr hj hok hcs hk hq hm hS hg hln hpp hs1 hs2 hj1 hj2 haw hnu hsn hO;by_cases e1:¬q=(j:Int)
   .have HN:=Hd (lV.o (by rw[HT.o,if_neg (λh=>e1 h.1)]));have r1:(q != (j:Int))=true:=by simpa using e1
    clear e1 jC;go_enter Tryz.func45,Tryz.ntmps45;go_wp2_with (first
     |(go_at_call 49;refine(Et.o _ (HF.o _ _ _ _ Ha.o (fR.alloc _))).mono ?_;rintro e w' ⟨rfl,hw'⟩;subst w')
     |(go_at_call 94;refine HL.o.mono ?_;rintro e wa ⟨rfl,fa⟩;have Ha:=Hd (HF.o _ _ _ _ H0.o fa);clear fa;obtain⟨c7,p4,z4,p3,p1⟩:=HC.o _ (HF.o _ _ _ _ Ha.o (fR.alloc (.cells (lcs k q m S g) 192)))))
    go_ret;exact⟨_,rfl,HN.o _ (HF.o _ _ _ _ Ha.o (by first|exact fR.alloc _|exact(fR.alloc _).drewN _|exact((fR.alloc _).drewN _).drewN _|exact((fR.alloc _).drewN _).drew|exact(((fR.alloc _).drewN _).drewN _).drew))⟩
   replace e1:q=(j:Int):=Decidable.not_not.1 e1;have r1:(q != (j:Int))=false:=by simpa using e1
   cases hwt:pp.wt with
   |false=>
    have HN:=Hd (lV.o (by rw[HT.o,if_neg (λh=>by rw[hwt]at h;cases h.2.1)]));rw[hwt]at jC;simp at jC;subst jC;clear e1 hwt;go_enter Tryz.func45,Tryz.ntmps45;go_wp2_with (first
     |(go_at_call 49;refine(Et.o _ (HF.o _ _ _ _ Ha.o (fR.alloc _))).mono ?_;rintro e w' ⟨rfl,hw'⟩;subst w')
     |(go_at_call 94;refine HL.o.mono ?_;rintro e wa ⟨rfl,fa⟩;have Ha:=Hd (HF.o _ _ _ _ H0.o fa);clear fa;obtain⟨c7,p4,z4,p3,p1⟩:=HC.o _ (HF.o _ _ _ _ Ha.o (fR.alloc (.cells (lcs k q m S g) 192)))))
    go_quiet (fail)
    go_wp2;go_ret;exact⟨_,rfl,HN.o _ (HF.o _ _ _ _ Ha.o (by first|exact fR.alloc _|exact(fR.alloc _).drewN _|exact((fR.alloc _).drewN _).drewN _|exact((fR.alloc _).drewN _).drew|exact(((fR.alloc _).drewN _).drewN _).drew))⟩
   |true=>
    by_cases e2:¬nu=m
    .have HN:=Hd (lV.o (by rw[HT.o,if_neg (λh=>e2 h.2.2)]));have r2:(nu != m)=true:=by simpa using e2
     have r3:(aw==0)=false:=by rw[jC,hwt];cases pp.dt<;>rfl
     clear e1 e2 jC hwt;go_enter Tryz.func45,Tryz.ntmps45;go_wp2_with (first
     |(go_at_call 49;refine(Et.o _ (HF.o _ _ _ _ Ha.o (fR.alloc _))).mono ?_;rintro e w' ⟨rfl,hw'⟩;subst w')
     |(go_at_call 94;refine HL.o.mono ?_;rintro e wa ⟨rfl,fa⟩;have Ha:=Hd (HF.o _ _ _ _ H0.o fa);clear fa;obtain⟨c7,p4,z4,p3,p1⟩:=HC.o _ (HF.o _ _ _ _ Ha.o (fR.alloc (.cells (lcs k q m S g) 192)))))
     go_quiet (fail)
     go_wp2;go_ret;exact⟨_,rfl,HN.o _ (HF.o _ _ _ _ Ha.o (by first|exact fR.alloc _|exact(fR.alloc _).drewN _|exact((fR.alloc _).drewN _).drewN _|exact((fR.alloc _).drewN _).drew|exact(((fR.alloc _).drewN _).drewN _).drew))⟩
    replace e2:nu=m:=Decidable.not_not.1 e2;have r2:(nu != m)=false:=by simpa using e2
    have HT2:Hid (bI O s j t=take1 O s j k g):=by show bI O s j t=_;rw[HT.o,if_pos ⟨e1,hwt,e2⟩]
    rw[hwt]at jC;clear e1 e2 hwt;by_cases e3:k=72
    .have r4:(k==72)=true:=by simpa using e3
     cases hdt:pp.dt with
     |false=>
      rw[hdt]at jC;simp at jC;subst jC;have HS:=Hd (HS.o (by rw[HT2.o,HT1.o,if_pos e3,hdt,if_neg (by simp)]));clear e3 hdt;go_enter Tryz.func45,Tryz.ntmps45;go_wp2_with (first
       |(go_at_call 49;refine(Et.o _ (HF.o _ _ _ _ Ha.o (fR.alloc _))).mono ?_;rintro e w' ⟨rfl,hw'⟩;subst w')
       |(go_at_call 94;refine HL.o.mono ?_;rintro e wa ⟨rfl,fa⟩;have Ha:=Hd (HF.o _ _ _ _ H0.o fa);clear fa;obtain⟨c7,p4,z4,p3,p1⟩:=HC.o _ (HF.o _ _ _ _ Ha.o (fR.alloc (.cells (lcs k q m S g) 192)))))
      go_quiet (fail)
      go_wp2_with (go_at_call 95;refine(HS.o _ (HF.o _ _ _ _ Ha.o (by first|exact fR.alloc _|exact(fR.alloc _).drewN _|exact((fR.alloc _).drewN _).drewN _|exact((fR.alloc _).drewN _).drew|exact(((fR.alloc _).drewN _).drewN _).drew))).mono ?_;rintro e w2 ⟨v,rfl,k2⟩;have H2:=Hd k2;clear k2);go_ret;exact⟨_,rfl,H2.o⟩
     |true=>
      rw[hdt]at jC;simp at jC;subst jC;have HE:=Hd (HE.o (by rw[HT2.o,HT1.o,if_pos e3,hdt,if_pos rfl]));clear e3 hdt;go_enter Tryz.func45,Tryz.ntmps45;go_wp2_with (first
       |(go_at_call 49;refine(Et.o _ (HF.o _ _ _ _ Ha.o (fR.alloc _))).mono ?_;rintro e w' ⟨rfl,hw'⟩;subst w')
       |(go_at_call 94;refine HL.o.mono ?_;rintro e wa ⟨rfl,fa⟩;have Ha:=Hd (HF.o _ _ _ _ H0.o fa);clear fa;obtain⟨c7,p4,z4,p3,p1⟩:=HC.o _ (HF.o _ _ _ _ Ha.o (fR.alloc (.cells (lcs k q m S g) 192)))))
      go_quiet (fail)
      go_wp2;go_ret;exact⟨_,rfl,HE.o _ (HF.o _ _ _ _ Ha.o (by first|exact fR.alloc _|exact(fR.alloc _).drewN _|exact((fR.alloc _).drewN _).drewN _|exact((fR.alloc _).drewN _).drew|exact(((fR.alloc _).drewN _).drewN _).drew))⟩
    have r4:(k==72)=false:=by simpa using e3
    by_cases e4:k=71∧pp.dt=true∧g=sn
    .have r5:(k==71)=true:=by simpa using e4.1
     have r6:(g==sn)=true:=by simpa using e4.2.2
     have HG:=Hd (HG.o (by rw[HT2.o,HT1.o,if_neg e3,if_pos e4]));rw[e4.2.1]at jC;simp at jC;subst jC;clear e3 e4;go_enter Tryz.func45,Tryz.ntmps45;go_wp2_with (first
      |(go_at_call 49;refine(Et.o _ (HF.o _ _ _ _ Ha.o (fR.alloc _))).mono ?_;rintro e w' ⟨rfl,hw'⟩;subst w')
      |(go_at_call 94;refine HL.o.mono ?_;rintro e wa ⟨rfl,fa⟩;have Ha:=Hd (HF.o _ _ _ _ H0.o fa);clear fa;obtain⟨c7,p4,z4,p3,p1⟩:=HC.o _ (HF.o _ _ _ _ Ha.o (fR.alloc (.cells (lcs k q m S g) 192)))))
     go_quiet (fail)
     go_wp2;go_quiet (fail)
     go_wp2_with (first
      |(go_at_call 97;refine(OU.o _ (by first|exact H2.o|exact HF.o _ _ _ _ H2.o fR.drew)).mono ?_;rintro e w3 ⟨rfl,k3,⟨a3,y4⟩,x4⟩;have H3:=Hd k3;clear k3)
      |(go_at_call 96;refine(FC.o _ (HF.o _ _ _ _ Ha.o (by first|exact fR.alloc _|exact(fR.alloc _).drewN _|exact((fR.alloc _).drewN _).drewN _|exact((fR.alloc _).drewN _).drew|exact(((fR.alloc _).drewN _).drewN _).drew))).mono ?_;rintro e w2 ⟨rfl,k2⟩;have H2:=Hd k2;clear k2))
     go_ret;exact⟨_,rfl,HG.o _ H3.o⟩
    have HN:=Hd (lV.o (by rw[HT2.o,HT1.o,if_neg e3,if_neg e4]));cases hdt:pp.dt with
    |false=>
     rw[hdt]at jC;simp at jC;subst jC;clear e3 e4 hdt;go_enter Tryz.func45,Tryz.ntmps45;go_wp2_with (first
      |(go_at_call 49;refine(Et.o _ (HF.o _ _ _ _ Ha.o (fR.alloc _))).mono ?_;rintro e w' ⟨rfl,hw'⟩;subst w')
      |(go_at_call 94;refine HL.o.mono ?_;rintro e wa ⟨rfl,fa⟩;have Ha:=Hd (HF.o _ _ _ _ H0.o fa);clear fa;obtain⟨c7,p4,z4,p3,p1⟩:=HC.o _ (HF.o _ _ _ _ Ha.o (fR.alloc (.cells (lcs k q m S g) 192)))))
     go_quiet (fail)
     go_wp2;go_quiet (fail)
     go_wp2;go_ret;exact⟨_,rfl,HN.o _ (HF.o _ _ _ _ Ha.o (by first|exact fR.alloc _|exact(fR.alloc _).drewN _|exact((fR.alloc _).drewN _).drewN _|exact((fR.alloc _).drewN _).drew|exact(((fR.alloc _).drewN _).drewN _).drew))⟩
    |true=>
     rw[hdt]at jC;simp at jC;subst jC;by_cases e5:k=71
     .have r5:(k==71)=true:=by simpa using e5
      have r6:(g==sn)=false:=by simp;exactλe=>e4 ⟨e5,hdt,e⟩
      clear e3 e4 e5 hdt;go_enter Tryz.func45,Tryz.ntmps45;go_wp2_with (first
       |(go_at_call 49;refine(Et.o _ (HF.o _ _ _ _ Ha.o (fR.alloc _))).mono ?_;rintro e w' ⟨rfl,hw'⟩;subst w')
       |(go_at_call 94;refine HL.o.mono ?_;rintro e wa ⟨rfl,fa⟩;have Ha:=Hd (HF.o _ _ _ _ H0.o fa);clear fa;obtain⟨c7,p4,z4,p3,p1⟩:=HC.o _ (HF.o _ _ _ _ Ha.o (fR.alloc (.cells (lcs k q m S g) 192)))))
      go_quiet (fail)
      go_wp2;go_quiet (fail)
      go_wp2;go_ret;exact⟨_,rfl,HN.o _ (HF.o _ _ _ _ Ha.o (by first|exact fR.alloc _|exact(fR.alloc _).drewN _|exact((fR.alloc _).drewN _).drewN _|exact((fR.alloc _).drewN _).drew|exact(((fR.alloc _).drewN _).drewN _).drew))⟩
     have r5:(k==71)=false:=by simpa using e5
     clear e3 e4 e5 hdt;go_enter Tryz.func45,Tryz.ntmps45;go_wp2_with (first
      |(go_at_call 49;refine(Et.o _ (HF.o _ _ _ _ Ha.o (fR.alloc _))).mono ?_;rintro e w' ⟨rfl,hw'⟩;subst w')
      |(go_at_call 94;refine HL.o.mono ?_;rintro e wa ⟨rfl,fa⟩;have Ha:=Hd (HF.o _ _ _ _ H0.o fa);clear fa;obtain⟨c7,p4,z4,p3,p1⟩:=HC.o _ (HF.o _ _ _ _ Ha.o (fR.alloc (.cells (lcs k q m S g) 192)))))
     go_quiet (fail)
     go_wp2;go_quiet (fail)
     go_wp2;go_ret;exact⟨_,rfl,HN.o _ (HF.o _ _ _ _ Ha.o (by first|exact fR.alloc _|exact(fR.alloc _).drewN _|exact((fR.alloc _).drewN _).drewN _|exact((fR.alloc _).drewN _).drew|exact(((fR.alloc _).drewN _).drewN _).drew))⟩
 have e0:bI O s i t=([],s):=by unfold bI;rw[if_neg (λh=>hpr h.1)]
 have hd:(decide (0≤i)&&decide (i<(s.ps.length:Int)))=false:=by
  by_cases h1:0≤i
  .have h2:¬i<(s.ps.length:Int):=λh=>hpr ⟨h1,h⟩;rw[kB h2,Bool.and_false]
  rw[kB h1,jz]
 rw[hd]at Et;have HN:=Hd (lV.o e0);obtain⟨ok,hok⟩:=eX (lO t);rw[hok]at HL;have Dr:∃k p m S g,cs=lcs k p m S g:=by
  rw[<-hcs];split
  .exact⟨_,_,_,_,_,rfl⟩
  exact⟨_,_,_,_,_,rfl⟩
 obtain⟨k,q,m,S,g,hc⟩:=Dr;rw[hc]at HL;clear h ho hP kY lV e0 hpr hd hok hcs hc;go_enter Tryz.func45,Tryz.ntmps45;go_wp2_with (first
  |(go_at_call 49;refine(Et.o _ (HF.o _ _ _ _ Ha.o (fR.alloc _))).mono ?_;rintro e w' ⟨rfl,hw'⟩;subst w')
  |(go_at_call 94;refine HL.o.mono ?_;rintro e wa ⟨rfl,fa⟩;have Ha:=Hd (HF.o _ _ _ _ H0.o fa);clear fa))
 go_ret;exact⟨_,rfl,HN.o _ (HF.o _ _ _ _ Ha.o (fR.alloc _))⟩
end
end Go.Proofs.YtjceeemlilnplaaGreatDoor
