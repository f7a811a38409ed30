import Derived.Test.YtjceeemlilnplaaGreatDoorM32
import Derived.Test.YtjceeemlilnplaaGreatDoorM34
set_option maxRecDepth 100000
set_option maxHeartbeats 12800000
set_option linter.all false
namespace Go.Proofs.YtjceeemlilnplaaGreatDoor
open Go.RowKit Go.Maps Go.MuLone
theorem Pm{t:cC}(ho:lO t=true)(hk:lK t=72∨lK t=71):(pD t).1.size≤4∧(bq (pD t).1.data.toList:Int)=lG t:=by
 by_cases h6:t.size<6
 .rw[sj h6]at ho;cases ho
 have h9:=CQ (t:=t) (by omega);rw[ho]at h9;have h10:t.size=10:=by have:=h9.symm;simp at this;omega
 have hz:=Il t;have e4:(pD t).1.size=4:=by omega
 refine⟨by omega,?_⟩;unfold lG;rw[if_pos hk];unfold LA dU;rw[if_neg (by omega)];obtain⟨x,hx⟩:=eX (pD t).1;rw[hx]at e4⊢;have e5:x.extract 0 4=x:=by rw[<-e4];simp
 rw[e5]
section
variable {B xb pb b RB:Nat}{ra:Option Addr}{rc:Nat}{w w' w0 W W':World}{F F' F0 L:List Nat}{s:Sc}{n n':Nat}{r r':ak}{O:gq}{p:Pl}
theorem IG{i:Int}{t:cC}(h:(lO t&&decide (lK t=72∨lK t=71))=false):bI O s i t=([],s):=by
 unfold bI;split
 .rename_i hc;rw[hc.2.1,js]at h;have h2:=of_decide_eq_false h;unfold take1;rw[if_neg (λe=>h2 (Or.inl e)),if_neg (λe=>h2 (Or.inr e.1))]
 rfl
theorem RG.take(hO:bE O)(h:RG ⟨B,xb,pb,b,RB,ra,rc⟩ w0 F0 s n w)(ho:fG s)(i:Int)(t:cC)(hsz:t.size≤2000000)(hn:n+40≤1000000000):
 Cl 46 #[.p xb,.i i,.t t] w λe w'=>∃v,e=.returned v∧RO ⟨B,xb,pb,b,RB,ra,rc⟩ w0 F0 (bI O s i t).2 (n+6) v (bI O s i t).1 w':=by
 obtain⟨P,hP⟩:∃P:Sc->Nat->World->Prop,P=RG ⟨B,xb,pb,b,RB,ra,rc⟩ w0 F0:=⟨_,rfl⟩;obtain⟨PR,kY⟩:∃PR:Value->World->Prop,PR=λv W=>RO ⟨B,xb,pb,b,RB,ra,rc⟩ w0 F0 (bI O s i t).2 (n+6) v (bI O s i t).1 W:=⟨_,rfl⟩;show Cl 46 _ w λe w'=>∃v,e=.returned v∧(λv W=>RO ⟨B,xb,pb,b,RB,ra,rc⟩ w0 F0 (bI O s i t).2 (n+6) v (bI O s i t).1 W) v w';rw[<-kY];have HF:Hid (∀s n W W',P s n W->Fr [] W W'->P s n W'):=by rw[hP];exactλ_ _ _ _ h f=>h.same f
 have H0:Hid (P s n w):=by rw[hP];exact h
 obtain⟨ok,hok⟩:∃ok,(lO t&&decide (lK t=72∨lK t=71))=ok:=⟨_,rfl⟩;have lV:Hid (bI O s i t=([],s)->∀W,P s n W->PR (.slice none 0 0) W):=λe W hW=>by rw[kY,e];rw[hP]at hW;exact(hW.up (by omega)).o
 obtain⟨ln,hln⟩:=eX s.ps.length;have uo:Hid (∀W,P s n W->W.cell? (Ad xb 11)=some (.slice (some (Ad pb 0)) ln ln)):=by
  rw[hP,<-hln]
  exactλW hW=>hW.dI.2.2.2.1
 have HL:Hid (Cl 98 #[.t t,.t ⟨#[72,71]⟩] w λe w'=>(∃(kk pp nn:Int)(rr:cC),e=.returned (.tuple #[.u kk,.i pp,.i nn,.t rr,.bool ok])∧(lO t=true->kk=lK t∧pp=lP t∧nn=lN t∧rr=(pD t).1))∧Fr [] w w'):=by rw[<-hok];exact pO t w hsz 72 71 (Or.inr ⟨rfl,rfl⟩)
 cases ok with
 |false=>
  have HN:=Hd (lV.o (IG hok));have HL:Hid (Cl 98 #[.t t,.t ⟨#[72,71]⟩] w λe w'=>(∃(kk pp nn:Int)(rr:cC),e=.returned (.tuple #[.u kk,.i pp,.i nn,.t rr,.bool false]))∧Fr [] w w'):=by refine HL.o.mono ?_;rintro e w' ⟨⟨kk,pp,nn,rr,he,_⟩,f⟩;exact⟨⟨kk,pp,nn,rr,he⟩,f⟩
  clear h ho hP kY lV hok;go_enter Tryz.func46,Tryz.ntmps46;go_wp2_with (go_at_call 98;refine HL.o.mono ?_;rintro e wa ⟨⟨kk,pp,nn,rr,rfl⟩,fa⟩;have Ha:=Hd (HF.o _ _ _ _ H0.o fa);clear fa);go_ret;exact⟨_,rfl,HN.o _ Ha.o⟩
 |true=>
  have hok1:lO t=true:=by
   cases e:lO t
   .rw[e]at hok;cases hok
   rfl
  have hK:lK t=72∨lK t=71:=by rw[hok1,js]at hok;exact km hok
  obtain⟨hg4,hgv⟩:=Pm hok1 hK;have QU:Hid (∀W,Rc 99 #[.t (pD t).1] W (.i (lG t)) λw'=>w'=W):=λW=>by rw[<-hgv];exact bA _ W hg4
  have HL:Hid (Rc 98 #[.t t,.t ⟨#[72,71]⟩] w (.tuple #[.u (lK t),.i (lP t),.i (lN t),.t (pD t).1,.bool true]) λw'=>Fr [] w w'):=by refine HL.o.mono ?_;rintro e w' ⟨⟨kk,pp,nn,rr,he,hr⟩,f⟩;obtain⟨a,b',c,d⟩:=hr hok1;exact⟨by rw[he,a,b',c,d],f⟩
  obtain⟨k,hk⟩:=eX (lK t);obtain⟨q,hq⟩:=eX (lP t);obtain⟨m,hm⟩:=eX (lN t);obtain⟨g,hg⟩:=eX (lG t);obtain⟨D,hD⟩:=eX (pD t).1;rw[hk,hq,hm,hD]at HL;rw[hg,hD]at QU;rw[hk]at hK;by_cases hpr:¬(0≤i∧i<s.ps.length)
  .have HN:=Hd (lV.o (by unfold bI;rw[if_neg (λh=>hpr h.1)]));rw[hln]at hpr;clear h ho hP kY lV hok hok1 hg4 hgv hk hq hm hg hD hln;by_cases hi0:i<0
   .clear hpr;go_enter Tryz.func46,Tryz.ntmps46;go_wp2_with (go_at_call 98;refine HL.o.mono ?_;rintro e wa ⟨rfl,fa⟩;have Ha:=Hd (HF.o _ _ _ _ H0.o fa);clear fa;have c11:=uo.o _ Ha.o);go_ret;exact⟨_,rfl,HN.o _ (by first|exact Ha.o|exact HF.o _ _ _ _ Ha.o fR.drew)⟩
   have hi1:(ln:Int)≤i:=by omega
   have hi2:¬i<(ln:Int):=by omega
   clear hpr;go_enter Tryz.func46,Tryz.ntmps46;go_wp2_with (go_at_call 98;refine HL.o.mono ?_;rintro e wa ⟨rfl,fa⟩;have Ha:=Hd (HF.o _ _ _ _ H0.o fa);clear fa;have c11:=uo.o _ Ha.o);go_ret;exact⟨_,rfl,HN.o _ (by first|exact Ha.o|exact HF.o _ _ _ _ Ha.o fR.drew)⟩
  replace hpr:=Decidable.not_not.1 hpr;obtain⟨j,rfl⟩:∃j:Nat,i=(j:Int):=⟨i.toNat,by omega⟩;have hj:j<s.ps.length:=by omega
  obtain⟨pp,hpp⟩:=eX (s.pr j);have HT:Hid (bI O s j t=if q=j∧pp.wt=true∧pp.num=m then take1 O s j k g else([],s)):=by
   show bI O s j t=_;unfold bI;rw[show((j:Int)).toNat=j by omega,hpp,hk,hq,hm,hg];by_cases hc:q=j∧pp.wt=true∧pp.num=m
   .rw[if_pos hc,if_pos ⟨hpr,hok1,hc⟩]
   rw[if_neg hc,if_neg (λh=>hc h.2.2)]
  have HC:Hid (∀W,P s n W->W.cell? (Ad pb (j*9+3))=some (.bool pp.wt)∧W.frozen? (Ad pb (j*9+3))=false∧W.cell? (Ad pb (j*9+5))=some (.i pp.num)∧W.cell? (Ad pb (j*9+4))=some (.bool pp.dt)∧W.cell? (Ad pb (j*9+2))=some (.i pp.sent)):=by rw[hP,<-hpp];intro W hW;exact⟨(hW.aR hj 3 (by omega)).1,(hW.aR hj 3 (by omega)).2,(hW.aR hj 5 (by omega)).1,(hW.aR hj 4 (by omega)).1,(hW.aR hj 2 (by omega)).1⟩
  have hjl:(j:Int)<(ln:Int):=by omega
  have hj0:(0:Int)≤(j:Int):=by omega
  have hj9:¬(j:Int)<0:=by omega
  have HS:Hid (bI O s j t=iU O s j g->(s.pr j).wt=true->∀W,P s n W->Cl 102 #[.p xb,.i j,.i g] W λe w'=>∃v,e=.returned v∧PR v w'):=λe e2 W hW=>by rw[hP]at hW;rw[kY,e];exact hW.answered hO ho hj e2 g (by omega)
  have HE:Hid (bI O s j t=([],s.aX j {s.pr j with wt:=false})->∀W,P s n W->PR (.slice none 0 0) (W.setCell (Ad pb (j*9+3)) (.bool false))):=λe W hW=>by rw[hP]at hW;rw[kY,e];exact((hW.set hj 3 (by omega) (.bool false) {s.pr j with wt:=false} rfl).up (by omega)).o
  obtain⟨s1,hs1⟩:=eX (bO O s j g);obtain⟨s2,hs2⟩:=eX (bN O s1 j);have hj1:j<s1.ps.length:=by rw[<-hs1,rV];exact hj
  have hj2:j<s2.ps.length:=by rw[<-hs2,rU];exact hj1
  have FC:Hid (∀W,P s n W->Rc 100 #[.p xb,.i j,.i g] W (.tuple #[]) λw'=>P s1 (n+2) w'):=by
   rw[hP,<-hs1]
   exactλW hW=>hW.knows hO hj ho.ps.2 g (by omega)
  have OU:Hid (∀W,P s1 (n+2) W->Rc 101 #[.p xb,.i j] W (.tuple #[]) λw'=>P s2 (n+3) w'∧(∃a:Bool,w'.cell? (Ad pb (j*9+3))=some (.bool a))∧w'.frozen? (Ad pb (j*9+3))=false):=by rw[hP,<-hs2];intro W hW;refine(hW.frees hO hj1 (by omega)).mono ?_;rintro e w' ⟨he,k'⟩;have h9:=k'.aR (i:=j) (by rw[hs2];exact hj2) 3 (by omega);exact⟨he,k',⟨_,h9.1⟩,h9.2⟩
  have HG:Hid (bI O s j t=([],A8 O s j g)->∀W,P s2 (n+3) W->PR (.slice none 0 0) (W.setCell (Ad pb (j*9+3)) (.bool false))):=λe W hW=>by rw[hP]at hW;rw[kY,e];unfold A8;rw[hs1,hs2];exact((hW.set hj2 3 (by omega) (.bool false) {s2.pr j with wt:=false} rfl).up (by omega)).o
  have HT1:Hid (take1 O s j k g=if k=72 then(if pp.dt then([],s.aX j {s.pr j with wt:=false})else iU O s j g)else(if k=71∧pp.dt=true∧g=pp.sent then([],A8 O s j g)else([],s))):=by show take1 O s j k g=_;unfold take1;rw[hpp]
  obtain⟨nu,hnu⟩:=eX pp.num;obtain⟨sn,hsn⟩:=eX pp.sent;have HW:Hid ((s.pr j).wt=pp.wt):=by rw[hpp];rfl
  rw[hnu,hsn]at HC;rw[hnu]at HT;rw[hsn]at HT1;obtain⟨bw,hbw⟩:=eX pp.wt;obtain⟨bd,hbd⟩:=eX pp.dt;rw[hbw,hbd]at HC;rw[hbw]at HT HW;rw[hbd]at HT1;clear h ho hP kY hpr hj hok hok1 hg4 hgv hk hq hm hg hD hln hpp hs1 hs2 hj1 hj2 hnu hsn hO hbw hbd;by_cases e1:¬q=(j:Int)
  .have HN:=Hd (lV.o (by rw[HT.o,if_neg (λh=>e1 h.1)]));have r1:(q != (j:Int))=true:=by simpa using e1
   clear e1;go_enter Tryz.func46,Tryz.ntmps46;go_wp2_with (go_at_call 98;refine HL.o.mono ?_;rintro e wa ⟨rfl,fa⟩;have Ha:=Hd (HF.o _ _ _ _ H0.o fa);clear fa;have c11:=uo.o _ Ha.o;obtain⟨p3,z3,p5,p4,p2⟩:=HC.o _ Ha.o);go_ret;exact⟨_,rfl,HN.o _ (by first|exact Ha.o|exact HF.o _ _ _ _ Ha.o fR.drew)⟩
  replace e1:q=(j:Int):=Decidable.not_not.1 e1;have r1:(q != (j:Int))=false:=by simpa using e1
  cases bw with
  |false=>
   have HN:=Hd (lV.o (by rw[HT.o,if_neg (λh=>by cases h.2.1)]));clear e1 HW;go_enter Tryz.func46,Tryz.ntmps46;go_wp2_with (go_at_call 98;refine HL.o.mono ?_;rintro e wa ⟨rfl,fa⟩;have Ha:=Hd (HF.o _ _ _ _ H0.o fa);clear fa;have c11:=uo.o _ Ha.o;obtain⟨p3,z3,p5,p4,p2⟩:=HC.o _ Ha.o);go_ret;exact⟨_,rfl,HN.o _ (by first|exact Ha.o|exact HF.o _ _ _ _ Ha.o fR.drew)⟩
  |true=>
   by_cases e2:¬nu=m
   .have HN:=Hd (lV.o (by rw[HT.o,if_neg (λh=>e2 h.2.2)]));have r2:(m != nu)=true:=by simp;exactλe=>e2 e.symm
    clear e1 e2 HW;go_enter Tryz.func46,Tryz.ntmps46;go_wp2_with (go_at_call 98;refine HL.o.mono ?_;rintro e wa ⟨rfl,fa⟩;have Ha:=Hd (HF.o _ _ _ _ H0.o fa);clear fa;have c11:=uo.o _ Ha.o;obtain⟨p3,z3,p5,p4,p2⟩:=HC.o _ Ha.o);go_ret;exact⟨_,rfl,HN.o _ (by first|exact Ha.o|exact HF.o _ _ _ _ Ha.o fR.drew)⟩
   replace e2:nu=m:=Decidable.not_not.1 e2;have r2:(m != nu)=false:=by simp;exact e2.symm
   have HT2:Hid (bI O s j t=take1 O s j k g):=by show bI O s j t=_;rw[HT.o,if_pos ⟨e1,rfl,e2⟩]
   have QV:=HW.o;clear e1 e2 HT HW;by_cases e3:k=72
   .have r4:(k==71)=false:=by simp;omega
    cases bd with
    |false=>
     have HS:=Hd (HS.o (by rw[HT2.o,HT1.o,if_pos e3,if_neg (by simp)]) QV);clear e3 QV hK HT1 HT2;go_enter Tryz.func46,Tryz.ntmps46;go_wp2_with (first
      |(go_at_call 102;refine(HS.o _ (by first|exact Ha.o|exact HF.o _ _ _ _ Ha.o fR.drew)).mono ?_;rintro e w2 ⟨v,rfl,k2⟩;have H2:=Hd k2;clear k2)
      |(go_at_call 99;refine(QU.o _).mono ?_;rintro e w' ⟨rfl,hw'⟩;subst w')
      |(go_at_call 98;refine HL.o.mono ?_;rintro e wa ⟨rfl,fa⟩;have Ha:=Hd (HF.o _ _ _ _ H0.o fa);clear fa;have c11:=uo.o _ Ha.o;obtain⟨p3,z3,p5,p4,p2⟩:=HC.o _ Ha.o))
     go_ret;exact⟨_,rfl,H2.o⟩
    |true=>
     have HE:=Hd (HE.o (by rw[HT2.o,HT1.o,if_pos e3,if_pos rfl]));clear e3 QV hK HT1 HT2;go_enter Tryz.func46,Tryz.ntmps46;go_wp2_with (first
      |(go_at_call 99;refine(QU.o _).mono ?_;rintro e w' ⟨rfl,hw'⟩;subst w')
      |(go_at_call 98;refine HL.o.mono ?_;rintro e wa ⟨rfl,fa⟩;have Ha:=Hd (HF.o _ _ _ _ H0.o fa);clear fa;have c11:=uo.o _ Ha.o;obtain⟨p3,z3,p5,p4,p2⟩:=HC.o _ Ha.o))
     go_ret;exact⟨_,rfl,HE.o _ Ha.o⟩
   have e5:k=71:=by omega
   have r4:(k==71)=true:=by simpa using e5
   by_cases e4:bd=true∧g=sn
   .have r6:(g==sn)=true:=by simpa using e4.2
    have HG:=Hd (HG.o (by rw[HT2.o,HT1.o,if_neg e3,if_pos ⟨e5,e4⟩]));have e6:=e4.1;clear HT1 HT2;subst e6;clear e3 e4 e5 QV hK;go_enter Tryz.func46,Tryz.ntmps46;go_wp2_with (first
     |(go_at_call 101;refine(OU.o _ (by first|exact H2.o|exact HF.o _ _ _ _ H2.o fR.drew)).mono ?_;rintro e w3 ⟨rfl,k3,⟨a3,y4⟩,x4⟩;have H3:=Hd k3;clear k3)
     |(go_at_call 100;refine(FC.o _ (by first|exact Ha.o|exact HF.o _ _ _ _ Ha.o fR.drew)).mono ?_;rintro e w2 ⟨rfl,k2⟩;have H2:=Hd k2;clear k2)
     |(go_at_call 99;refine(QU.o _).mono ?_;rintro e w' ⟨rfl,hw'⟩;subst w')
     |(go_at_call 98;refine HL.o.mono ?_;rintro e wa ⟨rfl,fa⟩;have Ha:=Hd (HF.o _ _ _ _ H0.o fa);clear fa;have c11:=uo.o _ Ha.o;obtain⟨p3,z3,p5,p4,p2⟩:=HC.o _ Ha.o))
    go_ret;exact⟨_,rfl,HG.o _ H3.o⟩
   have HN:=Hd (lV.o (by rw[HT2.o,HT1.o,if_neg e3,if_neg (λh=>e4 h.2)]));cases bd with
   |false=>
    clear e3 e4 e5 QV hK HT1 HT2;go_enter Tryz.func46,Tryz.ntmps46;go_wp2_with (first
    |(go_at_call 99;refine(QU.o _).mono ?_;rintro e w' ⟨rfl,hw'⟩;subst w')
    |(go_at_call 98;refine HL.o.mono ?_;rintro e wa ⟨rfl,fa⟩;have Ha:=Hd (HF.o _ _ _ _ H0.o fa);clear fa;have c11:=uo.o _ Ha.o;obtain⟨p3,z3,p5,p4,p2⟩:=HC.o _ Ha.o))
    go_ret;exact⟨_,rfl,HN.o _ (by first|exact Ha.o|exact HF.o _ _ _ _ Ha.o fR.drew)⟩
   |true=>
    have r6:(g==sn)=false:=by simp;exactλe=>e4 ⟨rfl,e⟩
    clear e3 e4 e5 QV hK HT1 HT2;go_enter Tryz.func46,Tryz.ntmps46;go_wp2_with (first
    |(go_at_call 99;refine(QU.o _).mono ?_;rintro e w' ⟨rfl,hw'⟩;subst w')
    |(go_at_call 98;refine HL.o.mono ?_;rintro e wa ⟨rfl,fa⟩;have Ha:=Hd (HF.o _ _ _ _ H0.o fa);clear fa;have c11:=uo.o _ Ha.o;obtain⟨p3,z3,p5,p4,p2⟩:=HC.o _ Ha.o))
    go_ret;exact⟨_,rfl,HN.o _ (by first|exact Ha.o|exact HF.o _ _ _ _ Ha.o fR.drew)⟩
end
end Go.Proofs.YtjceeemlilnplaaGreatDoor
