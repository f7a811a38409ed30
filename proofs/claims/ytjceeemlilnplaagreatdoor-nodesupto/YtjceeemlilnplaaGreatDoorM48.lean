import Derived.Test.YtjceeemlilnplaaGreatDoorM46
set_option maxRecDepth 100000
set_option maxHeartbeats 12800000
set_option linter.all false
namespace Go.Proofs.YtjceeemlilnplaaGreatDoor
open Go.RowKit Go.Maps Go.MuLone
section
variable {L:Ly}{A C A' C':Nt}{n n' B m c:Nat}{X X':Nat->Option Row}{w0 W W' w w9:World}{i j ob:Nat}{v v':Value}{y:Row}{V V':Lw}{xs:List Value}{r r':ak}{G F:List Nat}{K:Int}{kd at' a b:Int}{t:cC}{l:Value}
theorem Fp(h:NW L A A n fH V w0 W)(hj:j≤L.m)(hn:n+10≤1000000000)(hc:c≤1000000)(hV:mV m c V):Rc 36 #[.p L.nb,.p (L.d j),.agg (opC kd at' a b t l).toArray] W (.bool true) λw'=>∃V',NW L A A (n+2) fH V' w0 w'∧mV m (c+1) V':=by
 obtain⟨j0,hj0,Yn,jz1,Yo⟩:=info_parts Gg;obtain⟨X5,Ap⟩:=eX (aO fH 5 (some (eO W.heap.size 32 (opC kd at' a b t l))));have hX:X5 5=some (eO W.heap.size 32 (opC kd at' a b t l)):=by rw[<-Ap];exact if_pos rfl
 obtain⟨P,hP⟩:∃P:Nat->World->Prop,P=λk W=>NW L A A k X5 V w0 W:=⟨_,rfl⟩;obtain⟨W1,hW1⟩:=eX (W.alloc (.cells (opC kd at' a b t l).toArray 32));obtain⟨ob,jT⟩:=eX W.heap.size;rw[jT]at hX;obtain⟨db,hdb⟩:=eX (L.d j);obtain⟨xb,hxb⟩:=eX (L.p j).b;obtain⟨rb,hrb⟩:=eX (L.r j).b;obtain⟨wb,hwb⟩:=eX L.nb;have H0:Hid (P n W1):=by rw[hP,<-hW1,<-Ap];exact h.alloc 5 32 _
 have HF:Hid (∀k W W',P k W->Fr [] W W'->P k W'):=by rw[hP];exactλk W W' h f=>h.same f
 have HC:Hid (∀k W,P k W->W.cell? (Ad ob 2)=some (.i a)∧W.cell? (Ad ob 3)=some (.i b)∧W.cell? (Ad db 0)=some (.p xb)∧W.cell? (Ad db 1)=some (.p rb)):=by rw[hP,<-hdb,<-hxb,<-hrb];intro k W hW;have h9:=hW.Fe hX hj;exact⟨h9.1.2.1,h9.1.2.2.1,h9.2⟩
 obtain⟨⟨u,z⟩,PE,hb⟩:=wF ((NP.ok h hj).1.le (show n≤1000000000 by omega)) a b;have YH:Hid (∀W,P n W->Rc 30 #[.p xb,.i a,.i b] W (.tuple #[.t u,.i z]) λw'=>P (n+1) w'):=by rw[hP,<-hxb];intro W hW;have h9:=NP.yN hW hj hb (by omega);rw[Nt.jg]at h9;exact h9
 have H31:Hid (∀W,P (n+1) W->Rc 31 #[.p rb,.i a,.i b] W (.tuple #[.t u,.i z]) λw'=>P (n+2) w'):=by rw[hP,<-hrb];intro W hW;have h9:=NP.yO hW hj hb;rw[Nt.jg]at h9;exact h9
 obtain⟨Q,hQ⟩:∃Q:World->Prop,Q=λw'=>∃V',NW L A A (n+2) fH V' w0 w'∧mV m (c+1) V':=⟨_,rfl⟩;have HQ:Hid (∀W,P (n+2) W->Q W):=by
  rw[hP,hQ]
  exactλW hW=>⟨V,hW.clear,hV.le (by omega)⟩
 obtain⟨ta,tc,oI⟩:=ah h.lm.wm.to;obtain⟨TL,hTL⟩:=eX V.E.T.length;obtain⟨T,hT⟩:=eX V.E.T;obtain⟨BB,qA⟩:=eX w0.heap.size;rw[hTL]at oI;have HT:Hid (∀W,P (n+2) W->W.cell? (Ad wb 1)=some (.slice ta TL tc)∧W.ownsRow BB 9 1 (.slice ta TL tc) TL (T.map Value.string)∧BB≤W.heap.size):=by rw[hP,<-hwb,<-qA];intro W hW;have h9:=hW.cells;have h8:=hW.lm.wm.to;rw[oI,hTL,hT]at h8;exact⟨by rw[h9.1.2.1,oI],h8,h9.2.2.2.2⟩
 have HA:Hid (∀W w9 g9 c9,P (n+2) W->(W.alloc (.cells #[.t u] 9)).grownBy w9 (Value.slice ta TL tc).ownBlock->w9.ownsRow BB 9 1 (.slice (some (Ad g9 0)) (TL+1) c9) (TL+1) (T.map Value.string++[.t u])->((Value.slice ta TL tc).ownBlock=some g9∨g9=(W.alloc (.cells #[.t u] 9)).heap.size)->(w9.cell? (Ad wb 1)=some (.slice ta TL tc)∧w9.frozen? (Ad wb 1)=false)∧Q (w9.setCell (Ad wb 1) (.slice (some (Ad g9 0)) (TL+1) c9))):=by
  rw[hP,hQ,<-hwb,<-qA];intro W w9 g9 c9 hW hg ho hl;have h9:=hW.wE (T':=T++[u]) (v':=.slice (some (Ad g9 0)) (TL+1) c9) (by rw[oI];exact jV hg) (by rw[dE,<-hT,hTL,hT,fj];exact ho) (λk hk=>by
   have e:g9=k:=by simpa[Value.ownBlock]using hk
   rw[oI,<-e];exact hl.imp_right λh=>by simp at h;omega)
  refine⟨⟨by rw[h9.2.1,oI],h9.2.2⟩,_,h9.1.clear,?_⟩;refine⟨hV.k4,by have:=hV.kl;show V.K.length≤_∧V.M.length≤_;omega,hV.k16,hV.y,by have:=hV.yl;show V.Y.length≤_;omega,λt ht=>?_,?_⟩
  .rcases dT.1 ht with h1|h1
   .exact hV.t t (by rw[hT];exact h1)
   have e:t=u:=by simpa using h1
   have h2:u.size≤1000:=PE;rw[e];omega
  show(T++[u]).length≤_;have:=hV.tl;rw[dE,<-hT];simp;omega
 have hTq:TL≤1000000:=by have:=hV.tl;omega
 obtain⟨k2,k3,k5,k6⟩:=HC.o n W1 H0.o;rw[hwb,hdb]
 suffices h9:Rc 36 #[.p wb,.p db,.agg (opC kd at' a b t l).toArray] W (.bool true) λw'=>Q w' from h9.mono λe w' h=>⟨h.1,by have h2:=h.2;rw[hQ]at h2;exact h2⟩
 unfold opC at hW1⊢;clear h hV hP hQ hX Ap hdb hxb hrb hwb oI hTL hT qA hb PE;go_enter Tryz.func36,Tryz.ntmps36;go_wp2;clear hW1 jT;go_region_held3 (λw'=>w'.cell? ⟨ob,2,none⟩=some (.int .i64 a)∧w'.cell? ⟨ob,3,none⟩=some (.int .i64 b)∧w'.cell? ⟨db,0,none⟩=some (.pointer (some ⟨xb,0,none⟩)))
  (first
    |exact⟨y2,y3,y5⟩
    |go_keep)
  (first
    |(go_at_call 30;refine(YH.o _ (by first|exact H0.o|exact HF.o _ _ _ H0.o fR.drew|exact HF.o _ _ _ H0.o (fR.drewN _))).mono ?_;rintro e w4 ⟨rfl,p4⟩;have H4:=Hd p4;obtain⟨y2,y3,y5,y6⟩:=HC.o _ _ p4;clear p4))
 all_goals
  by_cases hz:z=0
  .subst hz;go_wp2;go_region_held3 (λw'=>w'.cell? ⟨ob,2,none⟩=some (.int .i64 a)∧w'.cell? ⟨ob,3,none⟩=some (.int .i64 b)∧w'.cell? ⟨db,1,none⟩=some (.pointer (some ⟨rb,0,none⟩)))
    (first
      |exact⟨z2,z3,z6⟩
      |go_keep)
    (first
      |(go_at_call 31;refine(H31.o _ (by first|exact H4.o|exact HF.o _ _ _ H4.o fR.drew|exact HF.o _ _ _ H4.o (fR.drewN _))).mono ?_;rintro e w5 ⟨rfl,p5⟩;have H5:=Hd p5;obtain⟨z2,z3,z5,z6⟩:=HC.o _ _ p5;clear p5))
   all_goals
    obtain⟨c51,hrt,hB5⟩:=HT.o w5 H5.o;have HRT:=Hd hrt;clear hrt;go_wp2_with (first
     |(at_builtin;refine wpList_append_lies _ rfl _ _ 34 rfl BB 9 j0 _ 1 16 Tryz.underlying34 hj0 Yn jz1 Yo rfl (by omega) (.slice ta TL tc) TL (T.map Value.string) rfl (HRT.o.alloc _) (Ad w5.heap.size 0) 1 1 [.t u] rfl (by simp) (World.news_of_block (cs:=#[.t u]) (t:=9) (fr:=(0,0)) (di w5 _)) (by simp[Value.oneCell']) (by omega) (by unfold maxLen;omega) (by omega) (by simp;omega) _ rfl ?_;intro g9 c9 w9 aH aJ vP D7;obtain⟨⟨x91,z91⟩,q9⟩:=HA.o w5 w9 g9 c9 H5.o aJ aH vP;have H9:=Hd q9;clear aH aJ vP D7 q9))
    all_goals
     go_ret;exact⟨rfl,H9.o⟩
  have hz1:(z==0)=false:=by simpa using hz
  go_wp2;go_region_held3 (λw'=>w'.cell? ⟨ob,2,none⟩=some (.int .i64 a)∧w'.cell? ⟨ob,3,none⟩=some (.int .i64 b)∧w'.cell? ⟨db,1,none⟩=some (.pointer (some ⟨rb,0,none⟩)))
   (first
     |exact⟨z2,z3,z6⟩
     |go_keep)
   (first
     |(go_at_call 31;refine(H31.o _ (by first|exact H4.o|exact HF.o _ _ _ H4.o fR.drew|exact HF.o _ _ _ H4.o (fR.drewN _))).mono ?_;rintro e w5 ⟨rfl,p5⟩;have H5:=Hd p5;obtain⟨z2,z3,z5,z6⟩:=HC.o _ _ p5;clear p5))
  all_goals
   go_wp2;go_ret;exact⟨rfl,HQ.o _ H5.o⟩
end
section
variable {L:Ly}{A C A' C':Nt}{n n' B m c:Nat}{X X':Nat->Option Row}{w0 W W' w w9:World}{i j ob:Nat}{v v':Value}{y:Row}{V V':Lw}{xs:List Value}{r r':ak}{G F:List Nat}{K:Int}{kd at' a b:Int}{t:cC}{l:Value}
theorem wZ(h:NW L A A n fH V w0 W)(hj:j≤L.m)(hn:n+10≤1000000000)(hc:c≤1000000)(hV:mV m c V)(ha:In64 a)(ht:t.size≤2000000):Rc 37 #[.p L.nb,.p (L.d j),.agg (opC kd at' a b t l).toArray] W (.bool true) λw'=>∃r',NW L (A.dA j r') (A.dA j r') (n+2) fH V w0 w':=by
 obtain⟨X5,Ap⟩:=eX (aO fH 5 (some (eO W.heap.size 32 (opC kd at' a b t l))));have hX:X5 5=some (eO W.heap.size 32 (opC kd at' a b t l)):=by rw[<-Ap];exact if_pos rfl
 obtain⟨W1,hW1⟩:=eX (W.alloc (.cells (opC kd at' a b t l).toArray 32));obtain⟨ob,jT⟩:=eX W.heap.size;rw[jT]at hX;obtain⟨db,hdb⟩:=eX (L.d j);obtain⟨xb,hxb⟩:=eX (L.p j).b;obtain⟨rb,hrb⟩:=eX (L.r j).b;obtain⟨wb,hwb⟩:=eX L.nb;obtain⟨ta,tc,oI⟩:=ah h.lm.wm.to;obtain⟨TL,hTL⟩:=eX V.E.T.length;rw[hTL]at oI;have h1:NW L A A n X5 V w0 W1:=by rw[<-hW1,<-Ap];exact h.alloc 5 32 _
 have k1:W1.cell? (Ad wb 1)=some (.slice ta TL tc):=by rw[<-hwb,h1.cells.1.2.1,oI]
 have hTq:TL≤1000000:=by have:=hV.tl;omega
 obtain⟨tx,htx,hcase⟩:∃tx:cC,tx.size≤2000000∧((a<0∧tx=t)∨(0≤a∧TL=0∧tx=t)∨(0≤a∧0<TL∧∃(k tg:Nat),ta=some (Ad tg 0)∧TL≤tc∧k<TL∧pk a TL=(k:Int)∧W1.cell? (Ad tg k)=some (.t tx))):=by
  by_cases h0:a<0
  .exact⟨t,ht,Or.inl ⟨h0,rfl⟩⟩
  by_cases h9:TL=0
  .exact⟨t,ht,Or.inr (Or.inl ⟨by omega,h9,rfl⟩)⟩
  have hpk:=eP a TL (by omega);obtain⟨k,hk⟩:∃k:Nat,pk a TL=(k:Int):=⟨(pk a TL).toNat,by omega⟩;rw[hk]at hpk;have hkl:k<V.E.T.length:=by omega
  have hto:=h1.lm.wm.to;rw[oI,hTL]at hto;obtain⟨tg,YI,htc,hcc⟩:=aB hto (by omega);refine⟨V.E.T[k],hV.t _ (eE _),Or.inr (Or.inr ⟨by omega,by omega,k,tg,YI,htc,by omega,hk,?_⟩)⟩;rw[hcc k (by omega)];simp[hkl]
 obtain⟨⟨u,z⟩,r',hb,_⟩:=CW ((NP.ok h hj).1.le (show n≤1000000000 by omega)) tx htx;obtain⟨P0,jA⟩:∃P:World->Prop,P=λW=>NW L A A n X5 V w0 W:=⟨_,rfl⟩;obtain⟨P1,hP1⟩:∃P:World->Prop,P=λW=>NW L (A.dA j r') A (n+1) X5 V w0 W:=⟨_,rfl⟩;obtain⟨P2,hP2⟩:∃P:World->Prop,P=λW=>NW L (A.dA j r') (A.dA j r') (n+2) X5 V w0 W:=⟨_,rfl⟩;have H0:Hid (P0 W1):=by rw[jA];exact h1
 have HF:Hid (∀W W',Fr [] W W'->(P0 W->P0 W')∧(P1 W->P1 W')):=by rw[jA,hP1];exactλW W' f=>⟨λh=>h.same f,λh=>h.same f⟩
 have HC:Hid (∀W,P0 W∨P1 W->W.cell? (Ad db 0)=some (.p xb)∧W.cell? (Ad db 1)=some (.p rb)):=by
  rw[jA,hP1,<-hdb,<-hxb,<-hrb];intro W hW;rcases hW with hW|hW
  .exact(hW.Fe hX hj).2
  exact(hW.Fe hX hj).2
 have HP:Hid (∀W,P0 W->Rc 80 #[.p xb,.t tx] W (.tuple #[.i u,.i z]) λw'=>P1 w'):=by rw[jA,hP1,<-hxb];intro W hW;have h9:=NP.yN hW hj hb (by omega);exact h9
 have HR:Hid (∀W,P1 W->Rc 81 #[.p rb,.t tx] W (.tuple #[.i u,.i z]) λw'=>P2 w'):=by rw[hP1,hP2,<-hrb];intro W hW;have h9:=NP.yO hW hj hb;exact h9
 have HQ:Hid (∀W,P2 W->∃r',NW L (A.dA j r') (A.dA j r') (n+2) fH V w0 W):=by
  rw[hP2]
  exactλW hW=>⟨r',hW.clear⟩
 have h9:=h1.Fe hX hj;obtain⟨⟨_,k2,_,k4,_⟩,k5,k6⟩:=h9;rw[hdb]at k5 k6;rw[hxb]at k5;rw[hrb]at k6;rw[hwb,hdb];obtain⟨QQ,YJ⟩:∃Q:World->Prop,Q=λW=>∃r',NW L (A.dA j r') (A.dA j r') (n+2) fH V w0 W:=⟨_,rfl⟩;have HQ:Hid (∀W,P2 W->QQ W):=by rw[YJ];exact HQ.o
 suffices h9:Rc 37 #[.p wb,.p db,.agg (opC kd at' a b t l).toArray] W (.bool true) λw'=>QQ w' from h9.mono λe w' h=>⟨h.1,by have h2:=h.2;rw[YJ]at h2;exact h2⟩
 unfold opC at hW1⊢;clear h h1 hV jA hP1 hP2 hX Ap hdb hxb hrb hwb oI hTL hb YJ ht htx;rcases hcase with⟨h0,rfl⟩|⟨h0,rfl,rfl⟩|⟨h0,h9,k,tg,rfl,htc,hk,hpk,kj⟩
 .have hd1:decide (a≥0)=false:=by simp;omega
  go_enter Tryz.func37,Tryz.ntmps37;go_wp2_with (first
   |(go_at_call 81;refine(HR.o _ (by first|exact H4.o|exact(HF.o _ _ fR.drew).2 H4.o|exact(HF.o _ _ (fR.drewN _)).2 H4.o)).mono ?_;rintro e w5 ⟨rfl,p5⟩;have H5:=Hd p5;clear p5)
   |(go_at_call 80;refine(HP.o _ (by first|exact H0.o|exact(HF.o _ _ fR.drew).1 H0.o|exact(HF.o _ _ (fR.drewN _)).1 H0.o)).mono ?_;rintro e w4 ⟨rfl,p4⟩;have H4:=Hd p4;obtain⟨y5,y6⟩:=HC.o w4 (Or.inr p4);clear p4))
  go_ret;exact⟨rfl,HQ.o _ H5.o⟩
 .have hd1:decide (a≥0)=true:=by simpa using h0
  have hd3:(0:Int)≤a:=h0;go_enter Tryz.func37,Tryz.ntmps37;go_wp2_with (first
   |(go_at_call 81;refine(HR.o _ (by first|exact H4.o|exact(HF.o _ _ fR.drew).2 H4.o|exact(HF.o _ _ (fR.drewN _)).2 H4.o)).mono ?_;rintro e w5 ⟨rfl,p5⟩;have H5:=Hd p5;clear p5)
   |(go_at_call 80;refine(HP.o _ (by first|exact H0.o|exact(HF.o _ _ fR.drew).1 H0.o|exact(HF.o _ _ (fR.drewN _)).1 H0.o)).mono ?_;rintro e w4 ⟨rfl,p4⟩;have H4:=Hd p4;obtain⟨y5,y6⟩:=HC.o w4 (Or.inr p4);clear p4))
  go_ret;exact⟨rfl,HQ.o _ H5.o⟩
 have zL:Hid (∀W,Rc 10 #[.i a,.i TL] W (.i k) λw'=>w'=W):=λW=>by rw[<-hpk];exact dh a TL W ha (by omega) (by omega)
 have j0:(0:Int)≤(k:Int):=by omega
 have j1:(k:Int)<(TL:Int):=by omega
 have hd1:decide (a≥0)=true:=by simpa using h0
 have hd3:(0:Int)≤a:=h0;have hd2:decide ((TL:Int)>0)=true:=by simp;omega
 have hd4:(0:Int)<(TL:Int):=by omega
 clear hpk;go_enter Tryz.func37,Tryz.ntmps37;go_wp2;go_region_held3 (λw'=>w'.cell? ⟨wb,1,none⟩=some (.slice (some ⟨tg,0,none⟩) TL tc)∧w'.cell? ⟨ob,2,none⟩=some (.int .i64 a)∧w'.cell? ⟨tg,k,none⟩=some (.string tx))
  (first
    |exact⟨k1,k2,kj⟩
    |go_keep)
  (first
    |(go_at_call 10;refine(zL.o _).mono ?_;rintro e w' ⟨rfl,hw'⟩;have hw'':=hw'.symm;subst hw''))
 go_wp2_with (first
  |(go_at_call 81;refine(HR.o _ (by first|exact H4.o|exact(HF.o _ _ fR.drew).2 H4.o|exact(HF.o _ _ (fR.drewN _)).2 H4.o)).mono ?_;rintro e w5 ⟨rfl,p5⟩;have H5:=Hd p5;clear p5)
  |(go_at_call 80;refine(HP.o _ (by first|exact H0.o|exact(HF.o _ _ fR.drew).1 H0.o|exact(HF.o _ _ (fR.drewN _)).1 H0.o)).mono ?_;rintro e w4 ⟨rfl,p4⟩;have H4:=Hd p4;obtain⟨y5,y6⟩:=HC.o w4 (Or.inr p4);clear p4))
 go_ret;exact⟨rfl,HQ.o _ H5.o⟩
end
section
variable {L:Ly}{A C A' C':Nt}{n n' B m c:Nat}{X X':Nat->Option Row}{w0 W W' w w9:World}{i j ob:Nat}{v v':Value}{V V':Lw}{kd at' a b:Int}{t:cC}{l:Value}{zs:List Int}{lo:Option Addr}{nc:Nat}
def StP(L:Ly)(A:Nt)(n m c:Nat)(w0 w':World):Prop:=∃A' V',NW L A' A' n fH V' w0 w'∧mV m (c+1) V'∧∀m K,eB m K A->eB m K A'
theorem NW.looks(h:NW L A C n X V w0 W)(hV:mV m c V)(hc:c≤1000000):Rc 6 #[.p L.nb] W (.bool true) λw'=>NW L A C n X V w0 w':=by have hk:=hV.kl;refine(DZ _ L.nb V.E V.kv V.mv V.K V.M W h.lm.wm (by omega) (by omega) hV.k16.1 hV.k16.2).mono ?_;rintro e w' ⟨he,f⟩;exact⟨he,h.same f⟩
theorem NW.sides(h:NW L A C n X V w0 W):∃sg sc,L.m+1≤sc∧V.E.sv=.slice (some (Ad sg 0)) (L.m+1) sc∧∀n A C X W,NW L A C n X V w0 W->∀i,i≤L.m->W.cell? (Ad sg i)=some (.p (L.d i)):=by
 have key:∀n A C X W,NW L A C n X V w0 W->W.ownsRow w0.heap.size 55 1 V.E.sv (L.m+1) (((List.range (L.m+1)).map L.d).map λd=>.p d):=λn A C X W h=>by have h1:=h.lm.wm.so;rw[h.lm.eD,eI,List.length_range]at h1;exact h1
 have h1:=key n A C X W h;obtain⟨sa,sc,hsv⟩:=ah h1;rw[hsv]at h1;obtain⟨sg,rfl,hc,_⟩:=aB h1 (by omega);refine⟨sg,sc,hc,hsv,λn A C X W h i hi=>?_⟩;have h2:=key n A C X W h;rw[hsv]at h2;obtain⟨g,e,_,hcc⟩:=aB h2 (by omega);have e:sg=g:=by simpa using e
 subst e;rw[hcc i (by omega),List.getElem?_map,List.getElem?_map,List.getElem?_range (by omega)];rfl
theorem Er(h:NW L A A n fH V w0 W)(hm:L.m≤3)(hn:n+10≤1000000000)(hc:c≤1000000)(hV:mV m c V)(hl:AQ w0 lo zs nc)(hk:1≤kd∧kd≤13)(ha:In64 a)(hat:In64 at')(ht:t.size≤2000000):Rc 15 #[.p L.nb,.agg (opC kd at' a b t (.slice lo zs.length nc)).toArray,.bool false] W (.bool true) λw'=>StP L A (n+2) m c w0 w':=by
 obtain⟨X5,Ap⟩:=eX (aO fH 5 (some (eO W.heap.size 32 (opC kd at' a b t (.slice lo zs.length nc)))));have hX:X5 5=some (eO W.heap.size 32 (opC kd at' a b t (.slice lo zs.length nc))):=by rw[<-Ap];exact if_pos rfl
 obtain⟨W1,hW1⟩:=eX (W.alloc (.cells (opC kd at' a b t (.slice lo zs.length nc)).toArray 32));obtain⟨ob,jT⟩:=eX W.heap.size;rw[jT]at hX;obtain⟨wb,hwb⟩:=eX L.nb;obtain⟨M,hM⟩:=eX (L.m+1);have hpk:=eP at' M (by omega);obtain⟨i,hi⟩:∃i:Nat,pk at' M=(i:Int):=⟨(pk at' M).toNat,by omega⟩;rw[hi]at hpk;have hj:i≤L.m:=by omega
 obtain⟨db,hdb⟩:=eX (L.d i);have h1:NW L A A n X5 V w0 W1:=by rw[<-hW1,<-Ap];exact h.alloc 5 32 _
 obtain⟨sg,sc,hsc,hsv,hcs⟩:=h1.sides;rw[hM]at hsc hsv;have k9:W1.cell? (Ad wb 0)=some (.slice (some (Ad sg 0)) M sc):=by rw[<-hwb,h1.cells.1.1,hsv]
 have ki:W1.cell? (Ad sg i)=some (.p db):=by rw[<-hdb];exact hcs _ _ _ _ _ h1 i hj
 obtain⟨⟨k0,k2,k3,k4,k5,k1⟩,_⟩:=h1.Fe hX hj;obtain⟨P0,jA⟩:∃P:World->Prop,P=λW=>NW L A A n X5 V w0 W:=⟨_,rfl⟩;obtain⟨Q,hQ⟩:∃P:World->Prop,P=λW=>StP L A (n+2) m c w0 W:=⟨_,rfl⟩;have H0:Hid (P0 W1):=by rw[jA];exact h1
 have HF:Hid (∀W W',P0 W->Fr [] W W'->P0 W'):=by rw[jA];exactλW W' h f=>h.same f
 have zL:Hid (∀W,Rc 10 #[.i at',.i M] W (.i i) λw'=>w'=W):=λW=>by rw[<-hi];exact dh at' M W hat (by omega) (by omega)
 obtain⟨nl,hnl⟩:=eX zs.length;have HS:Hid ((1≤kd∧kd≤11->∀W,P0 W->Rc 35 #[.p wb,.p db,.agg #[.i kd,.i at',.i a,.i b,.t t,.slice lo nl nc]] W (.bool true) λw'=>Q w')∧(∀W,P0 W->Rc 36 #[.p wb,.p db,.agg #[.i kd,.i at',.i a,.i b,.t t,.slice lo nl nc]] W (.bool true) λw'=>Q w')∧∀W,P0 W->Rc 37 #[.p wb,.p db,.agg #[.i kd,.i at',.i a,.i b,.t t,.slice lo nl nc]] W (.bool true) λw'=>Q w'):=by
  rw[jA,hQ,<-hwb,<-hdb,<-hnl];refine⟨λhk W hW=>?_,λW hW=>?_,λW hW=>?_⟩
  .exact Fj hW.clear hj hn hc hV hl hk ha
  .refine(Fp (kd:=kd) (at':=at') (a:=a) (b:=b) (t:=t) (l:=.slice lo zs.length nc) hW.clear hj hn hc hV).mono ?_;rintro e w' ⟨he,V',h9,hV'⟩;exact⟨he,A,V',h9,hV',λm K h=>h⟩
  refine(wZ (kd:=kd) (at':=at') (a:=a) (b:=b) (t:=t) (l:=.slice lo zs.length nc) hW.clear hj hn hc hV ha ht).mono ?_;rintro e w' ⟨he,r',h9⟩;exact⟨he,A.dA i r',V,h9,hV.le (by omega),λm K h=>h.dA⟩
 rw[hwb]
 suffices h9:Rc 15 #[.p wb,.agg (opC kd at' a b t (.slice lo zs.length nc)).toArray,.bool false] W (.bool true) λw'=>Q w' from h9.mono λe w' h=>⟨h.1,by have h2:=h.2;rw[hQ]at h2;exact h2⟩
 have i0:(0:Int)≤(i:Int):=by omega
 have i1:(i:Int)<(M:Int):=by omega
 have RP:M≤4:=by omega
 rw[hnl]at hW1 k5⊢;unfold opC at hW1⊢;have hkk:(1≤kd∧kd≤11)∨kd=12∨kd=13:=by omega
 clear h h1 hV jA hQ hX Ap hwb hdb hsv hcs hl ha hat ht hnl hpk hj hi hM hk hm;rcases hkk with hk|rfl|rfl
 .have Qu:=HS.o.1 hk;have Qu:=Hd λW=>Qu W;have g1:decide (kd≥1)=true:=by simp;omega
  have g2:decide (kd≤11)=true:=by simp;omega
  have g1':(1:Int)≤kd:=hk.1;have g2':kd≤11:=hk.2;clear HS hk;go_enter Tryz.func15,Tryz.ntmps15;go_wp2;go_region_held3 (λw'=>w'.cell? ⟨wb,0,none⟩=some (.slice (some ⟨sg,0,none⟩) M sc)∧w'.cell? ⟨ob,1,none⟩=some (.int .i64 at')∧w'.cell? ⟨sg,i,none⟩=some (.pointer (some ⟨db,0,none⟩)))
   (first
     |go_keep)
   (first
     |(go_at_call 10;refine(zL.o _).mono ?_;rintro e w' ⟨rfl,hw'⟩;have hw'':=hw'.symm;subst hw''))
  all_goals
   have j0:cE W1.drew ob 0 kd:=k0;have j1:cE W1.drew ob 1 at':=k1;have j2:cE W1.drew ob 2 a:=k2;have j3:cE W1.drew ob 3 b:=k3;have j4:cD W1.drew ob 4 (.t t):=k4;have j5:cD W1.drew ob 5 (.slice lo nl nc):=k5;go_wp2_with (go_at_call 35;refine(Qu.o _ (by first|exact HF.o _ _ H0.o fR.drew|exact HF.o _ _ H0.o (fR.drew).drew|exact HF.o _ _ H0.o ((fR.drew).drewN _))).mono ?_;rintro e w5 ⟨rfl,l5⟩;have H5:=Hd l5;clear l5);go_ret;exact⟨rfl,H5.o⟩
 .have YZ:=Hd λW=>HS.o.2.1 W;clear HS;go_enter Tryz.func15,Tryz.ntmps15;go_wp2;go_region_held3 (λw'=>w'.cell? ⟨wb,0,none⟩=some (.slice (some ⟨sg,0,none⟩) M sc)∧w'.cell? ⟨ob,1,none⟩=some (.int .i64 at')∧w'.cell? ⟨sg,i,none⟩=some (.pointer (some ⟨db,0,none⟩)))
   (first
     |go_keep)
   (first
     |(go_at_call 10;refine(zL.o _).mono ?_;rintro e w' ⟨rfl,hw'⟩;have hw'':=hw'.symm;subst hw''))
  all_goals
   have j0:cE W1.drew ob 0 12:=k0;have j1:cE W1.drew ob 1 at':=k1;have j2:cE W1.drew ob 2 a:=k2;have j3:cE W1.drew ob 3 b:=k3;have j4:cD W1.drew ob 4 (.t t):=k4;have j5:cD W1.drew ob 5 (.slice lo nl nc):=k5;go_wp2_with (go_at_call 36;refine(YZ.o _ (by first|exact HF.o _ _ H0.o fR.drew|exact HF.o _ _ H0.o (fR.drew).drew|exact HF.o _ _ H0.o ((fR.drew).drewN _))).mono ?_;rintro e w5 ⟨rfl,l5⟩;have H5:=Hd l5;clear l5);go_ret;exact⟨rfl,H5.o⟩
 have Y0:=Hd λW=>HS.o.2.2 W;clear HS;go_enter Tryz.func15,Tryz.ntmps15;go_wp2;go_region_held3 (λw'=>w'.cell? ⟨wb,0,none⟩=some (.slice (some ⟨sg,0,none⟩) M sc)∧w'.cell? ⟨ob,1,none⟩=some (.int .i64 at')∧w'.cell? ⟨sg,i,none⟩=some (.pointer (some ⟨db,0,none⟩)))
  (first
    |go_keep)
  (first
    |(go_at_call 10;refine(zL.o _).mono ?_;rintro e w' ⟨rfl,hw'⟩;have hw'':=hw'.symm;subst hw''))
 all_goals
  have j0:cE W1.drew ob 0 13:=k0;have j1:cE W1.drew ob 1 at':=k1;have j2:cE W1.drew ob 2 a:=k2;have j3:cE W1.drew ob 3 b:=k3;have j4:cD W1.drew ob 4 (.t t):=k4;have j5:cD W1.drew ob 5 (.slice lo nl nc):=k5;go_wp2_with (go_at_call 37;refine(Y0.o _ (by first|exact HF.o _ _ H0.o fR.drew|exact HF.o _ _ H0.o (fR.drew).drew|exact HF.o _ _ H0.o ((fR.drew).drewN _))).mono ?_;rintro e w5 ⟨rfl,l5⟩;have H5:=Hd l5;clear l5);go_ret;exact⟨rfl,H5.o⟩
end
section
variable {L:Ly}{A C A' C':Nt}{n n' B m c:Nat}{X X':Nat->Option Row}{w0 W W' w w9:World}{i j ob:Nat}{v v':Value}{y y':Row}{V V':Lw}{xs:List Value}{r r':ak}{G F:List Nat}{Λ:Lm}
theorem Mj(B b:Nat)(r:ak)(w:World)(h:aG B w b r):Rc 27 #[.p b] w (.i r.blocks) λw'=>w'=w:=by have c1:=h.cells.2.1;clear h;go_enter Tryz.func27,Tryz.ntmps27;go_wp2;go_ret;exact⟨rfl,rfl⟩
theorem NW.blocks(h:NW L A C n X V w0 W)(hj:j≤L.m):Rc 27 #[.p (L.r j).b] W (.i (C.r j).blocks) λw'=>w'=W:=by obtain⟨G,h1,_⟩:=NP.ML h j;obtain⟨F,⟨r0,⟨sv,mv,rfl⟩,rp,_⟩,o⟩:=h1.look hj;have h9:=Mj _ _ _ W rp;exact h9
theorem NP.YK(h:NP L A C n X Λ w0 W)(hx:X i=some y)(f:Fr y.v.ownBlock.toList W W')(hy:W'.ownsRow w0.heap.size y'.t y'.sz y'.v y'.n y'.xs)(e:∀k,y'.v.ownBlock=some k->y.v.ownBlock=some k∨W.heap.size≤k):NP L A C n (aO X i (some y')) Λ w0 W':=by obtain⟨h1,fp,h⟩:=h;have hq:=h.q (3,i);rw[lQ,hx]at hq;refine⟨h1,_,h.step (i:=(3,i)) (G:=y'.v.ownBlock.toList) (bQ h1) (bQ h1) ⟨by rw[hq.1];exact f,λk hk=>by rw[hq.1];simpa using e k (by simpa using hk)⟩ ?_ λa ha G W hq=>jW ha hq⟩;rw[lQ];unfold aO;rw[if_pos rfl];exact⟨rfl,hy⟩
theorem Qe{l:List Int}{k:Nat}(h:k<l.length):(bV l)[k]?=some (.i (tm l k)):=by simp[bV,tm,h]
theorem El(h:NW L A A n fH V w0 w)(hj:j≤L.m)(hn:n+2000≤1000000000):Rc 7 #[.p (L.p j).b,.p (L.r j).b] w (.bool true) λw'=>NW L A A (n+700) fH V w0 w':=by
 obtain⟨i0,hi,hz0,hz1,hz2⟩:=info_parts info3;have ok:=(NP.ok h hj).1;have hln:=ok.len;obtain⟨Q,hQ⟩:∃Q:Nat->(Nat->Option Row)->World->Prop,Q=λk X W=>NW L A A (n+k) X V w0 W:=⟨_,rfl⟩;obtain⟨b,hb⟩:=eX (L.p j).b;obtain⟨rb,hrb⟩:=eX (L.r j).b;obtain⟨nn,hnn⟩:=eX (A.r j).sh.length;obtain⟨k,hk⟩:=eX (A.r j).ms.length;obtain⟨Ls,VY⟩:=eX ((A.r j).sh.map r3);obtain⟨Ms,hMs⟩:=eX ((A.r j).ms.map Prod.fst);obtain⟨nb,hnb⟩:=eX (A.r j).blocks;obtain⟨BB,qA⟩:=eX w0.heap.size;have IL:Ls.length=nn:=by rw[<-VY,eI,hnn]
 have VZ:Ms.length=k:=by rw[<-hMs,eI,hk]
 have KP:nn≤12:=by omega
 have Mi:k≤12:=by omega
 have aad:nb≤16:=by obtain⟨s,q,m,_⟩:=ok;have:=m.bl;omega
 have H0:Hid (Q 0 fH w):=by rw[hQ];exact h
 have HF:Hid (∀k X W W',Q k X W->Fr [] W W'->Q k X W'):=by rw[hQ];exactλk X W W' h f=>h.same f
 have HSz:Hid (∀k X W,Q k X W->BB≤W.heap.size):=by rw[hQ,<-qA];exactλk X W h=>h.OQ.size
 have HFin:Hid (∀k X W,k≤700->Q k X W->NW L A A (n+700) fH V w0 W):=by rw[hQ];exactλk X W hk h=>h.clear.up (by omega)
 have H21:Hid (∀X W,Q 0 X W->Cl 21 #[.p b] W λe w'=>∃gg,e=.returned (.slice (some (Ad gg 0)) nn nn)∧Q 0 (aO X 0 (some ⟨.slice (some (Ad gg 0)) nn nn,84,3,nn,dL Ls⟩)) w'):=by rw[hQ,<-hb,<-hnn,<-VY];exactλX W hW=>hW.Jz hj 0
 have H22:Hid (∀X W,Q 0 X W->Cl 22 #[.p rb] W λe w'=>∃va vc,e=.returned (.slice va nn vc)∧Q 0 (aO X 1 (some ⟨.slice va nn vc,84,3,nn,dL Ls⟩)) w'):=by rw[hQ,<-hrb,<-hnn,<-VY];exactλX W hW=>hW.JB hj 1
 have H25:Hid (∀X W,Q 0 X W->Cl 25 #[.p b] W λe w'=>∃gg,e=.returned (.slice (some (Ad gg 0)) k k)∧Q 0 (aO X 2 (some ⟨.slice (some (Ad gg 0)) k k,3,1,k,bV Ms⟩)) w'):=by rw[hQ,<-hb,<-hk,<-hMs];exactλX W hW=>hW.JA hj 2
 have YL:Hid (∀q X W i,Q q X W->Cl 26 #[.p rb] W λe w'=>∃va vc,e=.returned (.slice va k vc)∧Q q (aO X i (some ⟨.slice va k vc,3,1,k,bV Ms⟩)) w'):=by rw[hQ,<-hrb,<-hk,<-hMs];exactλq X W i hW=>hW.JC hj i
 have H23:Hid (∀X W g va vc,Q 0 X W->X 0=some ⟨.slice (some (Ad g 0)) nn nn,84,3,nn,dL Ls⟩->X 1=some ⟨.slice va nn vc,84,3,nn,dL Ls⟩->Rc 23 #[.slice (some (Ad g 0)) nn nn,.slice va nn vc] W (.bool true) λw'=>Q 0 X w'):=by rw[hQ];intro X W g va vc hW h0 h1;have h9:=mR (some (Ad g 0)) va Ls nn vc W (nQ IL (NP.row hW h0)) (nQ IL (NP.row hW h1)) (by omega);rw[IL]at h9;refine h9.mono ?_;rintro e w' ⟨he,q,rfl⟩;exact⟨he,hW.same (fR.drewN q)⟩
 have H24:Hid (∀X W g va vc,Q 0 X W->X 2=some ⟨.slice (some (Ad g 0)) k k,3,1,k,bV Ms⟩->X 3=some ⟨.slice va k vc,3,1,k,bV Ms⟩->Rc 24 #[.slice (some (Ad g 0)) k k,.slice va k vc] W (.bool true) λw'=>Q 0 X w'):=by rw[hQ];intro X W g va vc hW h0 h1;have h9:=iX (some (Ad g 0)) va Ms k vc W (oC VZ (NP.row hW h0)) (oC VZ (NP.row hW h1)) (by omega);rw[VZ]at h9;refine h9.mono ?_;rintro e w' ⟨he,q,rfl⟩;exact⟨he,hW.same (fR.drewN q)⟩
 have YM:Hid (∀q X W,Q q X W->Rc 27 #[.p rb] W (.i nb) λw'=>w'=W):=by rw[hQ,<-hrb,<-hnb];exactλq X W hW=>hW.blocks hj
 have H28:Hid (∀z:Int,∃(u:cC)(e:Int),(∀q X W,q≤1000->Q q X W->Cl 28 #[.p b,.i z] W λe' w'=>e'=.returned (.tuple #[.t u,.i e])∧Q (q+1) X w')∧∀q X W,Q q X W->Cl 29 #[.p rb,.i z] W λe' w'=>e'=.returned (.tuple #[.t u,.i e])∧Q (q+1) X w'):=by
  intro z;obtain⟨⟨u,e⟩,hb'⟩:=Dm (ok.le (show n≤1000000000 by omega)) z;rw[hQ,<-hb,<-hrb];refine⟨u,e,λq X W hq hW=>?_,λq X W hW=>?_⟩
  .have h9:=NP.yN hW hj hb' (by omega);rw[Nt.jg]at h9;exact h9
  have h9:=NP.yO hW hj hb';rw[Nt.jg]at h9;exact h9
 have YH:Hid (∀f z:Int,∃(u:cC)(e:Int),(∀q X W,q≤1000->Q q X W->Cl 30 #[.p b,.i f,.i z] W λe' w'=>e'=.returned (.tuple #[.t u,.i e])∧Q (q+1) X w')∧∀q X W,Q q X W->Cl 31 #[.p rb,.i f,.i z] W λe' w'=>e'=.returned (.tuple #[.t u,.i e])∧Q (q+1) X w'):=by
  intro f z;obtain⟨⟨u,e⟩,_,hb'⟩:=wF (ok.le (show n≤1000000000 by omega)) f z;rw[hQ,<-hb,<-hrb];refine⟨u,e,λq X W hq hW=>?_,λq X W hW=>?_⟩
  .have h9:=NP.yN hW hj hb' (by omega);rw[Nt.jg]at h9;exact h9
  have h9:=NP.yO hW hj hb';rw[Nt.jg]at h9;exact h9
 have jy:Hid (∀q X W i y,Q q X W->X i=some y->W.ownsRow BB y.t y.sz y.v y.n y.xs):=by rw[hQ,<-qA];exactλq X W i y hW hx=>NP.row hW hx
 have YN:Hid (∀q X W(a:Option Addr)(l c:Nat)(zs:List Int)(z:Int)w9 g9 c9,Q q X W->X 4=some ⟨.slice a l c,3,1,l,bV zs⟩->(W.alloc (.cells #[.i z] 3)).grownBy w9 (Value.slice a l c).ownBlock->w9.ownsRow BB 3 1 (.slice (some (Ad g9 0)) (l+1) c9) (l+1) (bV zs++[.i z])->((Value.slice a l c).ownBlock=some g9∨g9=(W.alloc (.cells #[.i z] 3)).heap.size)->Q q (aO X 4 (some ⟨.slice (some (Ad g9 0)) (l+1) c9,3,1,l+1,bV (zs++[z])⟩)) w9):=by
  rw[hQ,<-qA];intro q X W a l c zs z w9 g9 c9 hW hx hg ho hl;refine NP.YK hW hx (y':=⟨_,3,1,_,_⟩) (jV hg) (by rw[bV,fj];exact ho) (λk hk=>?_);have e:g9=k:=by simpa[Value.ownBlock]using hk
  rw[<-e];exact hl.imp_right λh=>by simp at h;omega
 rw[hb,hrb];have HE:Hid (∀w',(∃k X,k≤700∧Q k X w')->NW L A A (n+700) fH V w0 w'):=λw'⟨k,X,h1,h2⟩=>HFin.o k X w' h1 h2
 suffices h9:Rc 7 #[.p b,.p rb] w (.bool true) λw'=>∃k X,k≤700∧Q k X w' from h9.mono λe w' h=>⟨h.1,HE.o w' h.2⟩
 clear h ok hln hQ hb hrb hnn hk VY hMs hnb qA HFin HE;go_enter Tryz.func7,Tryz.ntmps7;go_wp2_with (first
  |(have g7:=R7;go_at_call 24;refine(H24.o _ _ g6 Nq Nr R7.o (by simp[aO]) (by simp[aO])).mono ?_;rintro e w8 ⟨rfl,q8⟩;have R8:Hid (∃X,X 1=some ⟨.slice xk nn tT,84,3,nn,dL Ls⟩∧Q 0 X w8):=⟨_,by simp[aO],q8⟩;clear q8 g7)
  |(have g6':=R6;go_at_call 26;refine(YL.o 0 _ _ 3 (by first|exact R6.o|exact HF.o _ _ _ _ R6.o fR.drew|exact HF.o _ _ _ _ R6.o (fR.drewN _))).mono ?_;rintro e w7 ⟨Nq,Nr,rfl,q7⟩;have R7:=Hd q7;clear q7 g6')
  |(have g5:=Vb;go_at_call 25;refine(H25.o _ _ (by first|exact Vb.o|exact HF.o _ _ _ _ Vb.o fR.drew|exact HF.o _ _ _ _ Vb.o (fR.drewN _))).mono ?_;rintro e w6 ⟨g6,rfl,q6⟩;have R6:=Hd q6;clear q6 g5)
  |(have g5:=R5;go_at_call 23;refine(H23.o _ _ g4 xk tT R5.o (by simp[aO]) (by simp[aO])).mono ?_;rintro e w5b ⟨rfl,q5⟩;have Vb:=Hd q5;clear q5 g5)
  |(go_at_call 22;refine(H22.o _ _ (by first|exact R4.o|exact HF.o _ _ _ _ R4.o fR.drew|exact HF.o _ _ _ _ R4.o (fR.drewN _))).mono ?_;rintro e w5 ⟨xk,tT,rfl,q5⟩;have R5:=Hd q5;clear q5)
  |(go_at_call 21;refine(H21.o _ _ (by first|exact H0.o|exact HF.o _ _ _ _ H0.o fR.drew)).mono ?_;rintro e w4 ⟨g4,rfl,q4⟩;have R4:=Hd q4;clear q4))
 clear H21 H22 H25 H23 H24 H0 R4 R5 Vb R6 R7;go_loopw [9] (λi wr=>∃j:Nat,j≤nb∧i=.i j∧Hid (∃X,X 1=some ⟨.slice xk nn tT,84,3,nn,dL Ls⟩∧Q (2*j) X wr)) (λi _=>nb-(intOf i).toNat)
 case atStart=>exact⟨0,dC _,rfl,R8⟩
 obtain⟨j,hj,rfl,HJ⟩:=hrel;obtain⟨W3,hW3⟩:=eY wr;subst hW3;clear R8;obtain⟨X,hX1,hQ3⟩:=HJ.o;have HX1:=Hd hX1;have Q9:=Hd hQ3;clear HJ hX1 hQ3;by_cases hlt:j<nb
 .have hltz:(j:Int)<(nb:Int):=by omega
  obtain⟨u,z,h28,h29⟩:=H28.o (j:Int);have G28:=Hd h28;have G29:=Hd h29;clear h28 h29;go_wp2_with (first
   |(go_at_call 29;refine(G29.o (2*j+1) X _ (by first|exact Qf.o|exact HF.o _ _ _ _ Qf.o fR.drew|exact HF.o _ _ _ _ Qf.o (fR.drewN _))).mono ?_;rintro e oG ⟨rfl,Rb⟩;have YO:Hid (∃X,X 1=some ⟨.slice xk nn tT,84,3,nn,dL Ls⟩∧Q (2*(j+1)) X oG):=⟨X,HX1.o,Rb⟩;clear Rb)
   |(go_at_call 28;refine(G28.o (2*j) X _ (by omega) (by first|exact Q9.o|exact HF.o _ _ _ _ Q9.o fR.drew)).mono ?_;rintro e gV ⟨rfl,Rf⟩;have Qf:Hid (Q (2*j+1) X gV):=Rf;clear Rf)
   |(go_at_call 27;refine(YM.o _ _ W3 Q9.o).mono ?_;rintro e w' ⟨rfl,hw'⟩;have hw'':=hw'.symm;subst hw''))
  go_roundw
  case rel=>exact⟨j+1,by omega,by go_num,YO⟩
  simp[intOf];omega
 have hjj:j=nb:=by omega
 subst hjj;go_wp2_with (first
  |(go_at_call 27;refine(YM.o _ _ W3 Q9.o).mono ?_;rintro e w' ⟨rfl,hw'⟩;have hw'':=hw'.symm;subst hw'')
  |(go_at_call 26;refine(YL.o _ _ W3 4 Q9.o).mono ?_;rintro e w7 ⟨Nq,Nr,rfl,q7⟩;have S7:=Hd q7;have kS:=Hd (jy.o _ _ w7 4 ⟨.slice Nq k Nr,3,1,k,bV Ms⟩ q7 (by simp[aO]));have aay:=HSz.o _ _ _ q7;clear q7)
  |(at_builtin;refine wpList_append_lies _ rfl _ _ 30 rfl BB 3 i0 _ 1 8 Tryz.underlying30 hi hz0 hz1 hz2 rfl (by omega) (.slice Nq k Nr) k (bV Ms) rfl (kS.o.alloc _) (Ad w7.heap.size 0) 1 1 [.i 0] rfl rfl (World.news_of_block (cs:=#[.i 0]) (t:=3) (fr:=(0,0)) (di w7 _)) (by simp[Value.oneCell']) (by omega) (by unfold maxLen;omega) (by omega) (by simp;omega) _ rfl ?_;intro g8 c8 w8 pU kV Nl U2;have S8:Hid (∃X zs,zs.length=k+1∧X 1=some ⟨.slice xk nn tT,84,3,nn,dL Ls⟩∧X 4=some ⟨.slice (some (Ad g8 0)) (k+1) c8,3,1,k+1,bV zs⟩∧Q (2*j) X w8):=⟨_,Ms++[0],(by simp[VZ]),(by simp[aO];exact HX1.o),(by simp[aO]),YN.o _ _ w7 Nq k Nr Ms 0 w8 g8 c8 S7.o (by simp[aO]) kV pU Nl⟩;clear pU kV Nl U2))
 clear S7 kS Q9 YM YL H28;go_loopw [14,15] (λbs i wr=>∃(t l:Nat)(ba:Option Addr)(bc:Nat),t≤nn∧i=.i t∧bs=.slice ba l bc∧l≤13+t∧Hid (∃X zs,zs.length=l∧X 1=some ⟨.slice xk nn tT,84,3,nn,dL Ls⟩∧X 4=some ⟨.slice ba l bc,3,1,l,bV zs⟩∧Q (2*j) X wr)) (λ_ i _=>nn-(intOf i).toNat)
 case atStart=>exact⟨0,k+1,_,_,dC _,rfl,rfl,by omega,S8⟩
 obtain⟨t,l,ba,bc,ht,rfl,rfl,hl,HT⟩:=hrel;obtain⟨W4,iI⟩:=eY wr;subst iI;clear S8;by_cases hlt:t<nn
 .have hltz:(t:Int)<(nn:Int):=by omega
  have t0:(0:Int)≤(t:Int):=by omega
  obtain⟨X',zs,hzl,hx1,hx4,hq4⟩:=HT.o;obtain⟨g5,hg5,Dr,hcc⟩:=aB (jy.o _ _ _ 1 _ hq4 hx1) (by show 0<nn;omega);have hg:=iq Ls t (by omega);have c5:W4.cell? (Ad g5 (t*3))=some (.i (Ls[t]'(by omega)).1):=by rw[hcc (t*3) (by show t*3<nn*3;omega)];exact hg.1
  obtain⟨z,hz⟩:=eX (Ls[t]'(by omega)).1;rw[hz]at c5;have aaz:=HSz.o _ _ _ hq4;have V3:=Hj4 hzl hx1 hx4 hq4;have HRw:=Hd (jy.o _ _ _ 4 ⟨.slice ba l bc,3,1,l,bV zs⟩ hq4 hx4);have Qg:xk=some (Ad g5 0):=hg5;subst Qg;clear hzl hx1 hx4 hq4 hcc hg hz HT hg5;have YP:nn≤tT:=Dr;go_wp2_with (first
   |(at_builtin;refine wpList_append_lies _ rfl _ _ 30 rfl BB 3 i0 _ 1 8 Tryz.underlying30 hi hz0 hz1 hz2 rfl (by omega) (.slice ba l bc) l (bV zs) rfl (HRw.o.alloc _) (Ad W4.heap.size 0) 1 1 [.i z] rfl rfl (World.news_of_block (cs:=#[.i z]) (t:=3) (fr:=(0,0)) (di W4 _)) (by simp[Value.oneCell']) (by omega) (by unfold maxLen;omega) (by omega) (by simp;omega) _ rfl ?_;intro g8 c8 w8 pU kV Nl U2;have S8:Hid (∃X zs,zs.length=l+1∧X 1=some ⟨.slice (some (Ad g5 0)) nn tT,84,3,nn,dL Ls⟩∧X 4=some ⟨.slice (some (Ad g8 0)) (l+1) c8,3,1,l+1,bV zs⟩∧Q (2*j) X w8):=⟨_,zs++[z],(by simp[V3.o.1]),(by simp[aO];exact V3.o.2.1),(by simp[aO]),YN.o _ _ W4 ba l bc zs z w8 g8 c8 V3.o.2.2.2 V3.o.2.2.1 kV pU Nl⟩;clear pU kV Nl U2))
  go_roundw
  case rel=>exact⟨t+1,l+1,some (Ad g8 0),c8,by omega,by go_num,rfl,by omega,S8⟩
  simp[intOf];omega
 have NT:t=nn:=by omega
 subst NT;go_wp2;clear YN;have uw:2*j≤32:=by omega
 have HT0:Hid (∃q X zs,q≤32+50*0∧zs.length=l∧X 1=some ⟨.slice xk t tT,84,3,t,dL Ls⟩∧X 4=some ⟨.slice ba l bc,3,1,l,bV zs⟩∧Q q X W4):=by obtain⟨X',zs,h1,h2⟩:=HT.o;exact⟨2*j,X',zs,by omega,h1,h2⟩
 clear HT;go_loopw [16] (λi wr=>∃t':Nat,t'≤t∧i=.i t'∧Hid (∃q X zs,q≤32+50*t'∧zs.length=l∧X 1=some ⟨.slice xk t tT,84,3,t,dL Ls⟩∧X 4=some ⟨.slice ba l bc,3,1,l,bV zs⟩∧Q q X wr)) (λi _=>t-(intOf i).toNat)
 case atStart=>exact⟨0,dC _,rfl,HT0⟩
 obtain⟨t',ht',rfl,QC⟩:=hrel;obtain⟨W5,kJ⟩:=eY wr;subst kJ;clear HT0;by_cases hlt':t'<t
 .have hltz:(t':Int)<(t:Int):=by omega
  have t0:(0:Int)≤(t':Int):=by omega
  have HT1:=Hd QC;clear QC;go_wp2;go_loopw [17] (λi wr=>∃y:Nat,y≤l∧i=.i y∧Hid (∃q X zs,q≤32+50*t'+2*y∧zs.length=l∧X 1=some ⟨.slice xk t tT,84,3,t,dL Ls⟩∧X 4=some ⟨.slice ba l bc,3,1,l,bV zs⟩∧Q q X wr)) (λi _=>l-(intOf i).toNat)
  case atStart=>exact⟨0,dC _,rfl,HT1⟩
  obtain⟨y,hy,rfl,HY⟩:=hrel;obtain⟨W6,lI⟩:=eY wr;subst lI;clear HT1;by_cases hly:y<l
  .have aaA:(y:Int)<(l:Int):=by omega
   have y0:(0:Int)≤(y:Int):=by omega
   obtain⟨q,X',zs,hq,hzl,hx1,hx4,Ga⟩:=HY.o;obtain⟨g5,hg5,Dr,_⟩:=aB (jy.o _ _ _ 1 _ Ga hx1) (by show 0<t;omega);obtain⟨bg,hbg,hcb,_⟩:=aB (jy.o _ _ _ 4 _ Ga hx4) (by show 0<l;omega);have Qg:xk=some (Ad g5 0):=hg5;have YQ:ba=some (Ad bg 0):=hbg;subst Qg;subst YQ;have YP:t≤tT:=Dr;have aaB:l≤bc:=hcb;obtain⟨g,hg⟩:=eX (Ls[t']'(by omega)).1;obtain⟨f,hf⟩:=eX (tm zs y);have Kh:Hid (∀q W,Q q X' W->W.cell? (Ad bg y)=some (.i f)∧W.cell? (Ad g5 (t'*3))=some (.i g)):=λq W hW=>by
    obtain⟨g1,e1,_,k1⟩:=aB (jy.o _ _ _ 1 _ hW hx1) (by show 0<t;omega);obtain⟨g2,e2,_,k2⟩:=aB (jy.o _ _ _ 4 _ hW hx4) (by show 0<l;omega);have e1':g5=g1:=by simpa using e1
    have e2':bg=g2:=by simpa using e2
    subst e1';subst e2';refine⟨?_,?_⟩
    .rw[k2 y (by show y<l*1;omega),<-hf];exact Qe (by omega)
    rw[k1 (t'*3) (by show t'*3<t*3;omega),<-hg];exact(iq Ls t' (by omega)).1
   have Qh:=Hj5 hq hzl hx1 hx4 Ga;obtain⟨u,z,h30,h31⟩:=YH.o f g;have G30:=Hd λW hW=>h30 q X' W (by omega) hW;have G31:=Hd λW hW=>h31 (q+1) X' W hW;obtain⟨x1,x2⟩:=Kh.o q W6 Ga;clear hq hzl hx1 hx4 Ga hg hf HY h30 h31 hg5 hbg Dr hcb;go_wp2;go_region_held3 (λw'=>w'.cell? ⟨bg,y,none⟩=some (.int .i64 f)∧w'.cell? ⟨g5,t'*3,none⟩=some (.int .i64 g))
    (first
      |exact⟨y1,y2⟩
      |exact⟨x1,x2⟩
      |go_keep)
    (first
      |(go_at_call 30;refine(G30.o _ (by first|exact Qh.o.2.2.2.2|exact HF.o _ _ _ _ Qh.o.2.2.2.2 fR.drew|exact HF.o _ _ _ _ Qh.o.2.2.2.2 (fR.drewN _))).mono ?_;rintro e gV ⟨rfl,Rf⟩;have Qf:=Hd Rf;obtain⟨y1,y2⟩:=Kh.o _ gV Rf;clear Rf))
   all_goals
    go_wp2;go_region_held3 (λw'=>w'.cell? ⟨bg,y,none⟩=some (.int .i64 f)∧w'.cell? ⟨g5,t'*3,none⟩=some (.int .i64 g))
     (first
       |exact⟨z1,z2⟩
       |exact⟨y1,y2⟩
       |go_keep)
     (first
       |(go_at_call 31;refine(G31.o _ (by first|exact Qf.o|exact HF.o _ _ _ _ Qf.o fR.drew|exact HF.o _ _ _ _ Qf.o (fR.drewN _))).mono ?_;rintro e oG ⟨rfl,Rb⟩;obtain⟨z1,z2⟩:=Kh.o _ oG Rb;have YO:Hid (∃q X zs,q≤32+50*t'+2*(y+1)∧zs.length=l∧X 1=some ⟨.slice (some (Ad g5 0)) t tT,84,3,t,dL Ls⟩∧X 4=some ⟨.slice (some (Ad bg 0)) l bc,3,1,l,bV zs⟩∧Q q X oG):=⟨q+1+1,X',zs,(by have:=Qh.o.1;omega),Qh.o.2.1,Qh.o.2.2.1,Qh.o.2.2.2.1,Rb⟩;clear Rb))
    all_goals
     go_wp2;go_roundw
     case rel=>exact⟨y+1,by omega,by go_num,YO⟩
     simp[intOf];omega
  have hye:y=l:=by omega
  subst hye;have HY2:Hid (∃q X zs,q≤32+50*(t'+1)∧zs.length=y∧X 1=some ⟨.slice xk t tT,84,3,t,dL Ls⟩∧X 4=some ⟨.slice ba y bc,3,1,y,bV zs⟩∧Q q X W6):=by obtain⟨q,X',zs,h1,h2⟩:=HY.o;exact⟨q,X',zs,by omega,h2⟩
  clear HY;go_wp2;go_roundw
  case rel=>exact⟨t'+1,by omega,by go_num,HY2⟩
  simp[intOf];omega
 have hte:t'=t:=by omega
 subst hte;go_wp2;go_ret;obtain⟨q,X',zs,h1,_,_,_,h2⟩:=QC.o;exact⟨rfl,q,X',by omega,h2⟩
end
end Go.Proofs.YtjceeemlilnplaaGreatDoor
