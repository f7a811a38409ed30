import Derived.Test.YtjceeemlilnplaaGreatDoorM04
import Derived.Deep.QuietTactic
import Derived.BigQuiet
set_option maxRecDepth 100000
set_option maxHeartbeats 12800000
set_option linter.all false
namespace Go.Proofs.YtjceeemlilnplaaGreatDoor
open Go.RowKit Go.Maps Go.MuLone
def aS.sn(x:aS):Sn:=⟨x.au,x.time,x.holds,x.came⟩
theorem sP{α β:Type}(f:α->β)(p:β->Bool):∀(l:List α)(i:Nat),fi (λx=>p (f x)) i l=fi p i (l.map f)
 |[],_=>rfl
 |x::r,i=>by simp only[fi,List.map_cons];rw[sP f p r (i+1)]
theorem sQ(a b:List aS):bS (a++b)=bS a++bS b:=by simp[bS]
theorem gM:∀(l:List aS),(∀x∈l,x.wf)->(bS l).length=l.length*36
 |[],_=>rfl
 |x::r,h=>by
  have e:bS (x::r)=x.cells++bS r:=by simp[bS]
  rw[e,dE,iy (h x (by simp)),gM r (λy hy=>h y (by simp[hy])),il];omega
theorem uS(l:List aS)(h:∀x∈l,x.wf)(j:Nat)(hj:j≤l.length)(t:Nat)(ht:t<j*36):(bS (l.take j))[t]?=(bS l)[t]?:=by
 have e:bS l=bS (l.take j)++bS (l.drop j):=by rw[<-sQ,gl]
 rw[e,eS (by rw[gM _ (λx hx=>h x (kh hx)),eM,fN hj];exact ht)]
theorem EB(l:List aS)(h:∀x∈l,x.wf)(j:Nat)(hj:j≤l.length)(t:Nat):(bS (l.drop j))[t]?=(bS l)[j*36+t]?:=by
 have e:bS l=bS (l.take j)++bS (l.drop j):=by rw[<-sQ,gl]
 have hl:(bS (l.take j)).length=j*36:=by rw[gM _ (λx hx=>h x (kh hx)),eM,fN hj]
 rw[e,eC (by omega),hl,Nat.add_sub_cancel_left]
theorem wP{l:List aS}:∀u∈bS l,u.oneCell'=true:=by intro u hu;simp only[bS,List.mem_flatMap]at hu;obtain⟨x,_,hx⟩:=hu;simp only[aS.cells,dT,ek,fy,or_false,bG,aT,fm]at hx;rcases hx with(rfl|rfl|rfl|rfl)|⟨_,_,rfl⟩|⟨_,_,rfl⟩<;>rfl
def ak.ny(s:ak)(sh:List aS)(sv:Value):ak:={s with sh:=sh,sv:=sv}
theorem aG.ny{B:Nat}{w:World}{b:Nat}{s:ak}(h:aG B w b s){sh:List aS}{sv:Value}(hw:∀x∈sh,x.wf)(ho:w.ownsRow B 148 36 sv sh.length (bS sh)):aG B (w.setCell (Ad b 36) sv) b (s.ny sh sv):=by
 obtain⟨a1,a2⟩:=h.apart;have hmb:∀k,sv.ownBlock=some k->k≠b:=λk hk e=>by obtain⟨_,cur,h4⟩:=av ho hk;rw[e,h.blk]at h4;simp at h4
 refine⟨?_,h.j6,h.b16,hw,?_,?_,h.hb⟩
 .rw[dy w b 36 _ _ _ h.blk];have:=qF s h.j6 h.b16 sv;rw[show(s.ny sh sv).cells=({s with sv:=sv}:ak).cells from rfl,<-this];simp
 .exact aj ho (λk hk=>de _ _ _ _ (hmb k hk))
 exact aj h.ms (λk hk=>de _ _ _ _ (a2 k hk))
theorem mX:∀(l:List aS)(g:Int)(j:Nat)(hj:j<l.length),(l.map aS.au).Nodup->(l[j].au==g)=true->l.eraseIdx j=l.filter λx=>!(mE g x.sn)
 |[],_,_,h,_,_=>by simp at h
 |x::r,g,0,_,hu,hg=>by
  simp only[List.getElem_cons_zero]at hg;simp only[List.map_cons,List.nodup_cons]at hu;have h1:x.au=g:=by simpa using hg
  rw[List.eraseIdx_cons_zero,List.filter_cons_of_neg (by simp[mE,aS.sn,h1]),List.filter_eq_self.2];intro y hy;have:y.au≠g:=λe=>hu.1 (by rw[h1,<-e];exact jb hy);simp[mE,aS.sn,this]
 |x::r,g,j+1,hj,hu,hg=>by
  simp only[List.getElem_cons_succ]at hg;simp only[List.map_cons,List.nodup_cons]at hu;have hj':j<r.length:=by simpa using hj
  have h2:r[j].au=g:=by simpa using hg
  have h1:x.au≠g:=λe=>hu.1 (by rw[e,<-h2];exact jb (eE _));rw[List.eraseIdx_cons_succ,List.filter_cons_of_pos (by simp[mE,aS.sn,h1]),mX r g j (by simpa using hj) hu.2 hg]
def fV(sh:List aS)(zs:List Int):List aS:=sh.filter λx=>!(zs.any λz=>mE z x.sn)
theorem EC(sh:List aS):fV sh []=sh:=by simp[fV]
theorem Bn(ss:List aS)(zs:List Int)(k:Nat)(hk:k<zs.length):fV ss (zs.take (k+1))=(fV ss (zs.take k)).filter λx=>!(mE (tm zs k) x.sn):=by
 unfold fV;rw[List.filter_filter];congr 1;funext x;have ht:tm zs k=zs[k]:=by simp[tm,hk]
 rw[ew hk,List.any_append,ht];cases(zs.take k).any (λz=>mE z x.sn)<;>simp
theorem ED(sh:List aS)(zs:List Int):(fV sh zs).map aS.sn=left (sh.map aS.sn) zs:=by unfold fV left;rw[List.filter_map];rfl
def Nh(B b:Nat)(s:ak)(w wr:World)(zs:List Int):Prop:=
 ∃sv,aG B wr b (s.ny (fV s.sh zs) sv)∧Fr (aN b s) w wr∧(∀k,sv.ownBlock=some k->s.sv.ownBlock=some k∨w.heap.size≤k)
theorem Nh.step{B b j n k:Nat}{s:ak}{w W w6:World}{zs:List Int}{sk:ak}{sv v6:Value}(hk:k<zs.length)(hs:sk=s.ny (fV s.sh (zs.take k)) sv)(r:aG B W b sk)(f:Fr (aN b s) w W)(hu:(s.sh.map aS.au).Nodup)(hn:sk.sh.length=n)(hj:j<n)(hg:((sk.sh[j]'(by omega)).au==tm zs k)=true)(f6:Fr [] W w6)(ho:w6.ownsRow W.heap.size 148 36 v6 (n-1) (bS (sk.sh.take j)++bS (sk.sh.drop (j+1)))):Nh B b s w (w6.setCell (Ad b 36) v6) (zs.take (k+1)):=by
 have hBw:B≤W.heap.size:=by have:=r.hb;have:=(r.lt b (by simp[aN])).2;omega
 have hnd:(sk.sh.map aS.au).Nodup:=by rw[hs];exact List.Nodup.sublist (List.Sublist.map _ List.filter_sublist) hu
 have e1:=mX sk.sh (tm zs k) j (by omega) hnd hg;have e2:sk.sh.eraseIdx j=fV s.sh (zs.take (k+1)):=by rw[e1,Bn _ _ _ hk,hs];rfl
 rw[<-sQ,<-iu,e2]at ho;have hl:(fV s.sh (zs.take (k+1))).length=n-1:=by rw[<-e2,gx (by omega),hn]
 have hw:∀x∈fV s.sh (zs.take (k+1)),x.wf:=λx hx=>r.wf x (by rw[<-e2]at hx;exact(List.eraseIdx_sublist _ _).subset hx);have Ro:=f.trans f6 (by simp);refine⟨v6,?_,Ro.setCell _ (Or.inl (by simp[aN])),λk' hk'=>Or.inr (eJ f.size (av ho hk').1)⟩;have e3:(s.ny (fV s.sh (zs.take (k+1))) v6)=sk.ny (fV s.sh (zs.take (k+1))) v6:=by rw[hs];rfl
 rw[e3];refine(r.aA f6).ny hw ?_;rw[hl];exact⟨ho.1,ho.2.imp id λ⟨g,cap,cur,e,hb,r⟩=>⟨g,cap,cur,e,eJ hBw hb,r⟩⟩
theorem kN(B b:Nat)(s:ak)(ao:Option Addr)(zs:List Int)(cap:Nat)(w:World)(h:aG B w b s)(hl:s.sh.length≤12)(hu:(s.sh.map aS.au).Nodup)(hr:eU w ao zs cap)(hz:zs.length≤2000000)(hnf:∀k off,ao=some (Ad k off)->0<zs.length->k∉aN b s):
 Cl 121 #[.p b,.slice ao zs.length cap] w λe w'=>Fr (aN b s) w w'∧
  ((e=.returned (.i 3)∧(∃k,k<zs.length∧aZ (s.sh.map aS.sn) zs k=false)∧aG B w' b s)∨
   (e=.returned (.i 4)∧(∀k,k<zs.length->aZ (s.sh.map aS.sn) zs k=true)∧(∃k,k<zs.length∧dG (s.sh.map aS.sn) zs k=true)∧aG B w' b s)∨
   (e=.returned (.i 0)∧(∀k,k<zs.length->aZ (s.sh.map aS.sn) zs k=true)∧(∀k,k<zs.length->dG (s.sh.map aS.sn) zs k=false)∧Nh B b s w w' zs)):=by
 obtain⟨i0,hi⟩:∃i0,Tryz.prog.info? 148=some i0:=by
  cases hq:Tryz.prog.info? 148 with
  |none=>have:=jK;rw[hq]at this;cases this
  |some i=>exact⟨i,rfl⟩
 obtain⟨hz1,hz2⟩:i0.size=36∧i0.bytes=416:=by have:=jK;rw[hi]at this;simpa using this
 obtain⟨z0,hz0,hzs⟩:∃z,i0.zero=some z∧z.cells.size=36:=by have:=oh;rw[hi]at this;simpa using this
 have jy:Hid (∀W,Fr (aN b s) w W->eU W ao zs cap):=λW hW=>by refine⟨hr.1,λh0=>?_⟩;obtain⟨rb,off,e,hc⟩:=hr.2 h0;refine⟨rb,off,e,λi hi=>?_⟩;exact(du (hW.block rb (dm _ _ (hc i hi)) (hnf rb off e h0))).trans (hc i hi)
 have HR:=Hj3 h hl hu;have hcap:=hr.1;clear h hl hu hr hnf;go_enter Tryz.func121,Tryz.ntmps121;go_wp2;go_loopw [5] (λi wr=>∃k:Nat,k≤zs.length∧i=.i k∧Hid (Fr [] w wr∧∀j,j<k->aZ (s.sh.map aS.sn) zs j=true)) (λi _=>zs.length-(intOf i).toNat)
 case atStart=>exact⟨0,dC _,rfl,fR,λj hj=>by omega⟩
 obtain⟨k,hk,rfl,HK⟩:=hrel;obtain⟨W3,hW3⟩:=eY wr;subst hW3;by_cases hlt:k<zs.length
 .obtain⟨rb,off,hao,hc⟩:=(jy.o W3 (HK.o.1.mono (by simp))).2 (by omega);subst hao;have d1:=hc k hlt;obtain⟨g,hg⟩:=eX (tm zs k);have JI:=Hd hg;rw[hg]at d1;have hltz:(k:Int)<(zs.length:Int):=by omega
  have k0:(0:Int)≤(k:Int):=by omega
  have hS:=Hd λW hW=>aQ B b s g W ((HR.o.1.aA HK.o.1).aA hW) (by have:=HR.o.2.1;omega);clear hc hg;by_cases zX:∃x∈s.sh,(x.au==g)=true
  .obtain⟨j,hj,e0,hgj⟩:=dx s.sh 0 zX;rw[e0,eV]at hS;have HIn:Hid ((s.sh.map aS.sn).any (mE g)=true):=by obtain⟨x,hx,e⟩:=zX;exact fW.2 ⟨x.sn,jb hx,e⟩
   have j0:¬((j:Int)<0):=by omega
   have HKf:=Hd HK.o.2;have fP:Hid (∀W,Fr [] W3 W->Fr [] w W):=λW hW=>HK.o.1.trans hW (by simp);clear e0 hgj hj zX;go_wp2_with (first
    |(go_at_call 56;refine(hS.o _ (by first|exact fR|exact fR.drew|exact fR.drewN _)).mono ?_;rintro e w' ⟨rfl,hw'⟩;have hw'':=hw'.symm;subst hw''))
   clear d1;go_loopw [6] (λi wr=>∃t:Nat,t≤k∧i=.i t∧Hid (Fr [] w wr∧∀u,u<t->tm zs u≠g)) (λi _=>k-(intOf i).toNat)
   case atStart=>exact⟨0,dC _,rfl,fP.o _ (by first|exact fR|exact fR.drew|exact fR.drewN _),λu hu=>by omega⟩
   obtain⟨t,ht,rfl,HT⟩:=hrel;obtain⟨W4,iI⟩:=eY wr;subst iI;by_cases hlt2:t<k
   .have MF:(t:Int)<(k:Int):=by omega
    have t0:(0:Int)≤(t:Int):=by omega
    have tz:(t:Int)<(zs.length:Int):=by omega
    obtain⟨rb',off',hao',hc⟩:=(jy.o W4 (HT.o.1.mono (by simp))).2 (by omega);simp only[ip,Addr.mk.injEq,and_true]at hao';obtain⟨rfl,rfl⟩:=hao';have d1:=hc k hlt;rw[JI.o]at d1;have d2:=hc t (by omega);obtain⟨y,hy⟩:=eX (tm zs t);rw[hy]at d2;have HY:=Hd hy;clear hc hy;by_cases he:y=g
    .have he1:(y==g)=true:=by simpa using he
     have PN:Hid (aZ (s.sh.map aS.sn) zs k=false):=by show _=false;unfold aZ;have:((zs.take k).any λx=>tm zs k==x)=true:=fW.2 ⟨zs[t],List.mem_take_iff_getElem.2 ⟨t,by omega,rfl⟩,by rw[JI.o,<-lD zs t (by omega),HY.o,he];simp⟩;rw[this];simp
     go_wp2;go_quiet (fail)
     go_wp2;go_ret;exact⟨((HT.o.1.drewN _).mono (by simp)),Or.inl ⟨rfl,⟨k,hlt,PN.o⟩,HR.o.1.aA (HT.o.1.drewN _)⟩⟩
    have he1:(y==g)=false:=by simpa using he
    have HNe:Hid (tm zs t≠g):=by rw[HY.o];exact he
    go_wp2;go_quiet (fail)
    go_wp2;go_roundw
    case rel=>exact⟨t+1,by omega,by go_num,HT.o.1.drewN _,λu hu=>by
     by_cases e:u<t
     .exact HT.o.2 u e
     have e2:u=t:=by omega
     rw[e2];exact HNe.o⟩
    simp[intOf];omega
   have NT:t=k:=by omega
   subst NT;have CG:Hid (aZ (s.sh.map aS.sn) zs t=true):=by show _=true;unfold aZ;rw[JI.o,HIn.o];have:((zs.take t).any λx=>g==x)=false:=gR.2 (λx hx=>by obtain⟨u,hu,rfl⟩:=List.mem_take_iff_getElem.1 hx;have h8:=HT.o.2 u (by omega);rw[lD zs u (by omega)]at h8;simpa usingλe=>h8 e.symm);rw[this];rfl
   go_wp2;go_roundw
   case rel=>exact⟨t+1,by omega,by go_num,HT.o.1,λu hu=>by
    by_cases e:u<t
    .exact HKf.o u e
    have e2:u=t:=by omega
    rw[e2];exact CG.o⟩
   simp[intOf];omega
  rw[gB s.sh 0 (λx hx=>by cases hp:(x.au==g);rfl;exact absurd ⟨x,hx,hp⟩ zX)]at hS;have PN:Hid (aZ (s.sh.map aS.sn) zs k=false):=by
   show _=false;unfold aZ;rw[JI.o];have:(s.sh.map aS.sn).any (mE g)=false:=by rw[gR];intro x hx hp;obtain⟨y,hy,rfl⟩:=fm.1 hx;exact zX ⟨y,hy,hp⟩
   rw[this];rfl
  clear zX;go_wp2_with (first
   |(go_at_call 56;refine(hS.o _ (by first|exact fR|exact fR.drew|exact fR.drewN _)).mono ?_;rintro e w' ⟨rfl,hw'⟩;have hw'':=hw'.symm;subst hw''))
  go_ret;exact⟨HK.o.1.mono (by simp),Or.inl ⟨rfl,⟨k,hlt,PN.o⟩,HR.o.1.aA HK.o.1⟩⟩
 have hkk:k=zs.length:=by omega
 subst hkk;have nP:=Hd HK.o.2;have fP:=Hd HK.o.1;clear HK;go_wp2;go_loopw [7] (λi wr=>∃k:Nat,k≤zs.length∧i=.i k∧Hid (Fr [] w wr∧∀j,j<k->dG (s.sh.map aS.sn) zs j=false)) (λi _=>zs.length-(intOf i).toNat)
 case atStart=>exact⟨0,dC _,rfl,fP.o,λj hj=>by omega⟩
 obtain⟨k,hk,rfl,HK⟩:=hrel;obtain⟨W5,kJ⟩:=eY wr;subst kJ;clear fP;by_cases hlt:k<zs.length
 .obtain⟨rb,off,hao,hc⟩:=(jy.o W5 (HK.o.1.mono (by simp))).2 (by omega);subst hao;have d1:=hc k hlt;obtain⟨g,hg⟩:=eX (tm zs k);have JI:=Hd hg;rw[hg]at d1;have hltz:(k:Int)<(zs.length:Int):=by omega
  have k0:(0:Int)≤(k:Int):=by omega
  have R5:=HR.o.1.aA HK.o.1;have zX:∃x∈s.sh,(x.au==g)=true:=by have h8:=nP.o k hlt;unfold aZ at h8;rw[fh]at h8;obtain⟨y,hy,e⟩:=fW.1 h8.1;obtain⟨x,hx,rfl⟩:=fm.1 hy;rw[hg]at e;exact⟨x,hx,e⟩
  obtain⟨j,hj,e0,hgj⟩:=dx s.sh 0 zX;have hS:Hid (∀W,Fr [] W5 W->Rc 56 #[.p b,.i g] W (.i (j:Int)) λw'=>w'=W):=λW hW=>by have h8:=aQ B b s g W (R5.aA hW) (by have:=HR.o.2.1;omega);rw[e0,eV]at h8;exact h8
  obtain⟨Y4,nO,hsv⟩:=ah R5.sh;have hso:=R5.sh;rw[hsv]at hso;obtain⟨gg,hgg,xU,_⟩:=aB hso (by omega);subst hgg;obtain⟨hd,hhd⟩:=eX s.sh[j].holds;have d3:W5.cell? (Ad gg (j*36+2))=some (.i hd):=by rw[R5.fE hsv j hj 2 (by omega),<-hhd];rfl
  obtain⟨n,hn⟩:=eX s.sh.length;have d2:W5.cell? (Ad b 36)=some (.slice (some (Ad gg 0)) n nO):=by rw[<-hn,<-hsv];exact R5.cells.2.2.2.2.1
  have hHd:dG (s.sh.map aS.sn) zs k=decide (hd>0):=by unfold dG;have h8:=uz (ss:=s.sh.map aS.sn) (by rw[List.map_map];exact HR.o.2.2) (g:=g) (j:=j) (by simpa using hj) (by simpa[mE,aS.sn]using hgj) (λx=>decide (x.holds>0));rw[hg,h8];simp[aS.sn,hhd]
  have OW:=Hd hHd;have hjn:(j:Int)<(n:Int):=by omega
  have Rs:j<n:=by omega
  have j0:(0:Int)≤(j:Int):=by omega
  rw[hn]at xU;clear hc hg zX e0 hgj hj hsv hso hhd hn R5 hHd;by_cases hp:0<hd
  .have hp1:decide (hd>0)=true:=by simpa using hp
   go_wp2;first
    |go_region_with (first
     |(go_at_call 56;refine(hS.o _ (by first|exact fR|exact fR.drew|exact fR.drewN _)).mono ?_;rintro e w' ⟨rfl,hw'⟩;have hw'':=hw'.symm;subst hw''))
    |fail
   all_goals
    go_wp2;go_ret;exact⟨(Fr.mono (F:=[]) (by first|exact HK.o.1|exact HK.o.1.drew|exact HK.o.1.drewN _) (by simp)),Or.inr (Or.inl ⟨rfl,nP.o,⟨k,hlt,by rw[OW.o];simpa using hp⟩,HR.o.1.aA (by first|exact HK.o.1|exact HK.o.1.drew|exact HK.o.1.drewN _)⟩)⟩
  have hp1:decide (hd>0)=false:=by simpa using hp
  go_wp2;first
   |go_region_with (first
    |(go_at_call 56;refine(hS.o _ (by first|exact fR|exact fR.drew|exact fR.drewN _)).mono ?_;rintro e w' ⟨rfl,hw'⟩;have hw'':=hw'.symm;subst hw''))
   |fail
  all_goals
   go_wp2;go_roundw
   case rel=>exact⟨k+1,by omega,by go_num,by first|exact HK.o.1|exact HK.o.1.drew|exact HK.o.1.drewN _,λu hu=>by
    by_cases e:u<k
    .exact HK.o.2 u e
    have e2:u=k:=by omega
    rw[e2,OW.o];simpa using hp⟩
   simp[intOf];omega
 have hkk:k=zs.length:=by omega
 subst hkk;have Ur:=Hd HK.o.2;have F7:Hid (Nh B b s w W5 (zs.take 0)):=⟨s.sv,by have h8:=HR.o.1.aA HK.o.1;rw[List.take_zero,EC];exact h8,HK.o.1.mono (by simp),λk hk=>Or.inl hk⟩;clear HK;go_wp2;go_loopw [8] (λi wr=>∃m:Nat,m≤zs.length∧i=.i m∧Hid (Nh B b s w wr (zs.take m))) (λi _=>zs.length-(intOf i).toNat)
 case atStart=>exact⟨0,dC _,rfl,F7⟩
 obtain⟨m,hm,rfl,HM⟩:=hrel;obtain⟨W6,lI⟩:=eY wr;subst lI;clear F7;by_cases hlm:m<zs.length
 .obtain⟨sv,r6,f6,o6⟩:=HM.o;obtain⟨rb,off,hao,hc⟩:=(jy.o W6 f6).2 (by omega);subst hao;have d1:=hc m hlm;obtain⟨g,hg⟩:=eX (tm zs m);rw[hg]at d1;have hltz:(m:Int)<(zs.length:Int):=by omega
  have m0:(0:Int)≤(m:Int):=by omega
  obtain⟨sk,hsk⟩:=eX (s.ny (fV s.sh (zs.take m)) sv);rw[hsk]at r6;have PS:sk.sh=fV s.sh (zs.take m):=by rw[<-hsk];rfl
  have hex:∃x∈sk.sh,(x.au==g)=true:=by obtain⟨y,hy,e⟩:=xQ (nP.o m hlm);rw[<-ED,<-PS]at hy;obtain⟨x,hx,rfl⟩:=fm.1 hy;rw[hg]at e;exact⟨x,hx,e⟩
  have hl12:sk.sh.length≤12:=by rw[PS];exact eJ (List.length_filter_le _ _) HR.o.2.1
  obtain⟨j,hj,ej,hgj⟩:=dx sk.sh 0 hex;rw[eV]at ej;have hS:Hid (∀W,Fr [] W6 W->Rc 56 #[.p b,.i g] W (.i (j:Int)) λw'=>w'=W):=λW hW=>by have h8:=aQ B b sk g W (r6.aA hW) (by omega);rw[ej]at h8;exact h8
  obtain⟨Y4,nO,hsv⟩:=ah r6.sh;have hso:=r6.sh;rw[hsv]at hso;obtain⟨gg,hgg,xU,hcc⟩:=aB hso (by omega);subst hgg;obtain⟨n,hn⟩:=eX sk.sh.length;have Rs:j<n:=by omega
  have cZ:W6.cell? (Ad b 36)=some (.slice (some (Ad gg 0)) n nO):=by rw[<-hn,<-hsv];exact r6.cells.2.2.2.2.1
  have jQ:Hid (aG B W6 b sk∧sk.sh.length=n∧(∀t,t<n*36->W6.cell? (Ad gg t)=(bS sk.sh)[t]?)∧sk=s.ny (fV s.sh (zs.take m)) sv∧Fr (aN b s) w W6∧tm zs m=g∧((sk.sh[j]'hj).au==tm zs m)=true):=⟨r6,hn,by rw[<-hn];exact hcc,hsk.symm,f6,hg,by rw[hg];exact hgj⟩;have q1:IntKind.i64.wrap ((j:Int)+1)=(j:Int)+1:=aD ⟨by omega,by omega⟩;have j0:¬((j:Int)<0):=by omega
  rw[hn]at xU hl12;have i1:(j:Int)≤(n:Int):=by omega
  have i2:(j:Int)≤(nO:Int):=by omega
  have i3:(j:Int)+1≤(n:Int):=by omega
  have i4:(j:Int)+1≤(nO:Int):=by omega
  have i5:(n:Int)≤(nO:Int):=by omega
  have i6:((j:Int)+1).toNat=j+1:=by omega
  have HJ:=Hd hj;clear hc hg hsk PS hex ej hgj hsv hso hcc hn r6 f6 o6;by_cases hkc:nO=j+1
  .have Yb:n=j+1:=by omega
   subst hkc Yb;go_wp2_with (first
    |(go_at_call 56;refine(hS.o _ (by first|exact fR|exact fR.drew|exact fR.drewN _)).mono ?_;rintro e w' ⟨rfl,hw'⟩;have hw'':=hw'.symm;subst hw'')
    |(at_builtin;refine wpList_append_own _ rfl _ _ 143 rfl W6.heap.size 148 i0 _ 36 416 Tryz.underlying143 hi hz0 hz1 hz2 hzs (by omega) (.slice none 0 0) 0 [] rfl (eA _ _ _ _) (Ad gg 0) j (j+1) (bS (sk.sh.take j)) rfl (by rw[gM _ (λx hx=>jQ.o.1.wf x (kh hx)),eM,jQ.o.2.1,fN (by omega)]) (λt u hu=>by
       rw[Addr.add_lit,eV];have ht:t<j*36:=by have:=(df.1 hu).1;rw[gM _ (λx hx=>jQ.o.1.wf x (kh hx)),eM,jQ.o.2.1,fN (by omega)]at this;exact this
       rw[uS _ jQ.o.1.wf j (by rw[jQ.o.2.1];omega) t ht]at hu;rw[jQ.o.2.2.1 t (by omega)];exact hu) wP (by unfold maxLen;omega) (by omega) (eh _) ?_;intro v5 w5 hown5 bY _
      rw[eV,fe]at hown5;have H5:Hid (w5.ownsRow W6.heap.size 148 36 v5 j (bS (sk.sh.take j))∧Fr [] W6 w5):=⟨hown5,fR.grown bY (λx hx=>by simp[Value.ownBlock]at hx)⟩;have Yc:cD w5 b 36 (.slice (some (Ad gg 0)) (j+1) (j+1)):=H5.o.2.gb.cell cZ (by simp);obtain⟨EF,c5,e5⟩:=ah H5.o.1;subst e5;clear hown5 bY)
    |(at_builtin;refine wpList_append_own _ rfl _ _ 143 rfl W6.heap.size 148 i0 _ 36 416 Tryz.underlying143 hi hz0 hz1 hz2 hzs (by omega) (.slice EF j c5) j _ rfl H5.o.1 (Ad gg 0) 0 0 [] rfl rfl (by simp) (by simp) (by unfold maxLen;omega) (by omega) (eJ (eh _) H5.o.2.size) ?_;intro v6 w6 hown6 dw _;rw[ix,gn]at hown6;have hd:bS (sk.sh.drop (j+1))=[]:=by rw[jt (by rw[jQ.o.2.1];omega)];rfl
      have H6:Hid (w6.ownsRow W6.heap.size 148 36 v6 (j+1-1) (bS (sk.sh.take j)++bS (sk.sh.drop (j+1)))∧Fr [] W6 w6):=⟨by rw[hd,gn];exact hown6,H5.o.2.grown dw (λk hk=>Or.inr (av H5.o.1 hk).1)⟩;have Yd:cD w6 b 36 (.slice (some (Ad gg 0)) (j+1) (j+1)):=H6.o.2.gb.cell cZ (by simp);have fz:w6.frozen? (Ad b 36)=false:=(jQ.o.1.aA H6.o.2).frozen 36;obtain⟨IY,c6,e6⟩:=ah H6.o.1;subst e6;clear hown6 dw))
   go_roundw
   case rel=>exact⟨m+1,by omega,by go_num,Nh.step hlm jQ.o.2.2.2.1 jQ.o.1 jQ.o.2.2.2.2.1 HR.o.2.2 jQ.o.2.1 (by omega) jQ.o.2.2.2.2.2.2 H6.o.2 H6.o.1⟩
   simp[intOf];omega
  go_wp2_with (first
   |(go_at_call 56;refine(hS.o _ (by first|exact fR|exact fR.drew|exact fR.drewN _)).mono ?_;rintro e w' ⟨rfl,hw'⟩;have hw'':=hw'.symm;subst hw'')
   |(at_builtin;refine wpList_append_own _ rfl _ _ 143 rfl W6.heap.size 148 i0 _ 36 416 Tryz.underlying143 hi hz0 hz1 hz2 hzs (by omega) (.slice none 0 0) 0 [] rfl (eA _ _ _ _) (Ad gg 0) j nO (bS (sk.sh.take j)) rfl (by rw[gM _ (λx hx=>jQ.o.1.wf x (kh hx)),eM,jQ.o.2.1,fN (by omega)]) (λt u hu=>by
      rw[Addr.add_lit,eV];have ht:t<j*36:=by have:=(df.1 hu).1;rw[gM _ (λx hx=>jQ.o.1.wf x (kh hx)),eM,jQ.o.2.1,fN (by omega)]at this;exact this
      rw[uS _ jQ.o.1.wf j (by rw[jQ.o.2.1];omega) t ht]at hu;rw[jQ.o.2.2.1 t (by omega)];exact hu) wP (by unfold maxLen;omega) (by omega) (eh _) ?_;intro v5 w5 hown5 bY _
     rw[eV,fe]at hown5;have H5:Hid (w5.ownsRow W6.heap.size 148 36 v5 j (bS (sk.sh.take j))∧Fr [] W6 w5):=⟨hown5,fR.grown bY (λx hx=>by simp[Value.ownBlock]at hx)⟩;have Yc:=H5.o.2.gb.cell cZ (by simp);obtain⟨EF,c5,e5⟩:=ah H5.o.1;subst e5;clear hown5 bY)
   |(at_builtin;refine wpList_append_own _ rfl _ _ 143 rfl W6.heap.size 148 i0 _ 36 416 Tryz.underlying143 hi hz0 hz1 hz2 hzs (by omega) (.slice EF j c5) j _ rfl H5.o.1 (Ad gg ((j+1)*36)) (n-(j+1)) (nO-(j+1)) (bS (sk.sh.drop (j+1))) rfl (by rw[gM _ (λx hx=>jQ.o.1.wf x (List.mem_of_mem_drop hx)),gj,jQ.o.2.1]) (λt u hu=>by
      rw[Addr.add_lit];have ht:t<(n-(j+1))*36:=by have:=(df.1 hu).1;rw[gM _ (λx hx=>jQ.o.1.wf x (List.mem_of_mem_drop hx)),gj,jQ.o.2.1]at this;exact this
      rw[EB _ jQ.o.1.wf (j+1) (by rw[jQ.o.2.1];omega),<-jQ.o.2.2.1 _ (by omega)]at hu;exact H5.o.2.gb.cell hu (by simp)) wP (by unfold maxLen;omega) (by omega) (eJ (eh _) H5.o.2.size) ?_;intro v6 w6 hown6 dw _
     rw[show j+(n-(j+1))=n-1 by omega]at hown6;have H6:=Hj2 hown6 (H5.o.2.grown dw (λk hk=>Or.inr (av H5.o.1 hk).1));have Yd:=H6.o.2.gb.cell cZ (by simp);have fz:w6.frozen? (Ad b 36)=false:=(jQ.o.1.aA H6.o.2).frozen 36;obtain⟨IY,c6,e6⟩:=ah H6.o.1;subst e6;clear hown6 dw))
  go_roundw
  case rel=>exact⟨m+1,by omega,by go_num,Nh.step hlm jQ.o.2.2.2.1 jQ.o.1 jQ.o.2.2.2.2.1 HR.o.2.2 jQ.o.2.1 (by omega) jQ.o.2.2.2.2.2.2 H6.o.2 H6.o.1⟩
  simp[intOf];omega
 have hmm:m=zs.length:=by omega
 subst hmm;have HF:Hid (Nh B b s w W6 zs):=by have h8:=HM.o;rw[kf]at h8;exact h8
 go_wp2;go_ret;exact⟨by obtain⟨_,_,f,_⟩:=HF.o;exact f,Or.inr (Or.inr ⟨rfl,nP.o,Ur.o,HF.o⟩)⟩
theorem xV(B b:Nat)(s:aK)(g:Int)(w:World)(h:aC B w b 0 s)(hl:s.ms.length≤12)(hf:fi (λy:Int×Int=>y.1==g) 0 s.ms=-1):
 Rc 77 #[.p b,.i g] w (.i 3) λw'=>aC B w' b 0 s∧Fr (foot b s) w w':=by
 have R1:=h.lock 1;obtain⟨w1,hw1⟩:=eX (w.setCell (Ad b 0) (.int .i32 1));rw[hw1]at R1;have HL:=lock_free Tryz.muLib (Ad b 0) w h.cells.1 (h.frozen 0);have F1:Fr (foot b s) w w1:=by rw[<-hw1];exact aV b s w _
 have HF:=Hj3 hw1 R1 F1;have HR2:=Hj2 R1 F1;have HS:=bF B b 1 s g w1 R1 (by omega);rw[hf]at HS;clear h hw1 R1 F1 HR2 hf;go_enter_defers Tryz.func77,Tryz.ntmps77;go_wp2_with (first
  |(go_at_call 50;refine HL.mono ?_;rintro e w' ⟨rfl,hw'⟩;rw[HF.o.1]at hw';have hw':=hw'.symm;subst hw')
  |(go_at_call 109;refine HS.mono ?_;rintro e w2 ⟨rfl,hfr⟩;have HR2:=Hj2 (HF.o.2.1.aA hfr) (HF.o.2.2.trans hfr (by simp));clear hfr))
 refine leaves_cons (f:=51) (args:=#[.pointer (some ⟨b,0,none⟩)]) (by simp) (by simp[go_sem]) ?_;refine(eK Tryz.muLib (Ad b 0) .returning _ HR2.o.1.cells.1 (HR2.o.1.frozen 0)).mono ?_;rintro e u' w'' ⟨rfl,rfl,rfl⟩;exact⟨_,results_tmp rfl _ _ _,rfl,HR2.o.1.lock 0,HR2.o.2.setCell _ (Or.inl (by simp[foot]))⟩
theorem vL(B b:Nat)(s:ak)(g:Int)(w:World)(h:aG B w b s)(hl:s.ms.length≤12)(hf:fi (λy:Int×Int=>y.1==g) 0 s.ms=-1):
 Rc 78 #[.p b,.i g] w (.i 3) λw'=>w'=w:=by
 have HS:=dP B b s g w h (by omega);rw[hf]at HS;clear h hf;go_enter Tryz.func78,Tryz.ntmps78;go_wp2_with (first
  |(go_at_call 112;refine HS.mono ?_;rintro e w' ⟨rfl,hw'⟩;subst w'))
 go_ret;exact⟨by first|rfl|trivial,by first|rfl|trivial⟩
theorem DU(B b:Nat)(s:aK)(g:Int)(j:Nat)(x:Sn)(w:World)(h:aC B w b 0 s)(hl:s.ss.length≤12)(hf:fi (λy:Sn=>y.au==g) 0 s.ss=(j:Int))(hx:s.ss[j]?=some x)(hh:9≤x.holds):
 Rc 70 #[.p b,.i g] w (.i 5) λw'=>aC B w' b 0 s∧Fr (foot b s) w w':=by
 have R1:=h.lock 1;obtain⟨w1,hw1⟩:=eX (w.setCell (Ad b 0) (.int .i32 1));rw[hw1]at R1;have hj:j<s.ss.length:=(df.1 hx).1;have HL:=lock_free Tryz.muLib (Ad b 0) w h.cells.1 (h.frozen 0);have F1:Fr (foot b s) w w1:=by rw[<-hw1];exact aV b s w _
 have HF:=Hj4 hw1 R1 F1 hx;have HS:=aF B b 1 s g w1 R1 (by omega);rw[hf]at HS;obtain⟨ao,cap,hsv⟩:=ah h.ss;have ho:=h.ss;rw[hsv]at ho;obtain⟨gg,hgg,hcap,_⟩:=aB ho (by omega);subst hgg;have hgl:=h.ss.lt gg (by rw[hsv];rfl);have HV:=Hd hsv;obtain⟨n,hn⟩:=eX s.ss.length;have hjn:(j:Int)<(n:Int):=by omega
 have HN:=Hd hn;clear h R1 F1 hw1 hf hx ho hsv hgl;rw[hn]at hcap hj hl;clear hn;go_enter_defers Tryz.func70,Tryz.ntmps70;go_wp2_with (first
  |(go_at_call 50;refine HL.mono ?_;rintro e w' ⟨rfl,hw'⟩;rw[HF.o.1]at hw';have hw':=hw'.symm;subst hw')
  |(go_at_call 53;refine HS.mono ?_;rintro e w2 ⟨rfl,hfr⟩;have HR2:=Hj2 (HF.o.2.1.aA hfr) (HF.o.2.2.1.trans hfr (by simp));have c4:w2.cell? (Ad b 4)=some (.slice (some (Ad gg 0)) n cap):=by rw[<-HN.o,<-HV.o];exact HR2.o.1.cells.2.2.2.1
    have d2:w2.cell? (Ad gg (j*4+2))=some (.i x.holds):=by
     have h1:=HR2.o.1.ss;rw[HV.o,HN.o]at h1;obtain⟨g',e',_,hc⟩:=aB h1 (by omega);have:g'=gg:=by simpa using e'.symm
     subst this;rw[hc _ (by omega)];have h2:=(iW s.ss j (by rw[HN.o];exact hj)).2.2.1;rw[h2];have h3:=HF.o.2.2.2;rw[dp (by rw[HN.o];exact hj)]at h3;simp at h3;rw[h3]
    clear hfr))
 refine leaves_cons (f:=51) (args:=#[.pointer (some ⟨b,0,none⟩)]) (by simp) (by simp[go_sem]) ?_;refine(eK Tryz.muLib (Ad b 0) .returning _ HR2.o.1.cells.1 (HR2.o.1.frozen 0)).mono ?_;rintro e u' w'' ⟨rfl,rfl,rfl⟩;exact⟨_,results_tmp rfl _ _ _,rfl,HR2.o.1.lock 0,HR2.o.2.setCell _ (Or.inl (by simp[foot]))⟩
theorem DV(b:Nat)(t:Int)(w:World)(ht:t<0∨1073741824<t):
 Rc 66 #[.p b,.i t] w (.tuple #[.i 0,.i 1]) λw'=>w'=w:=by
 by_cases h0:t<0
 .clear ht;go_enter Tryz.func66,Tryz.ntmps66;go_wp2;go_ret2;exact⟨by first|rfl|trivial,by first|rfl|trivial⟩
 have h1:1073741824<t:=by omega
 clear ht;go_enter Tryz.func66,Tryz.ntmps66;go_wp2;go_ret2;exact⟨by first|rfl|trivial,by first|rfl|trivial⟩
theorem Ac(B b:Nat)(s:ak)(n t:Int)(w:World)(h:aG B w b s)(ht:0≤t∧t≤1073741824)(h1:1≤s.id∧s.id≤999)(h2:0≤s.last∧s.last≤999999)(hf:DW s n)(hs:s.sh.length≤12)(hm:s.ms.length≤12)(hfull:s.sh.length=12∨999999<n):
 Rc 66 #[.p b,.i t] w (.tuple #[.i 0,.i 5]) λw'=>w'=w:=by
 obtain⟨c0,_,_,c3,cZ,_⟩:=h.cells;have hlo:=hf.lo;have hhi:=hf.hi;have HH:=Hd λk=>iB B b s (1000000*s.id+k) w h (by omega) (by omega);have NG:=Hd hf;obtain⟨ao,cap,hsv⟩:=ah h.sh;rw[hsv]at cZ;obtain⟨m,hm'⟩:=eX s.sh.length;rw[hm']at cZ hfull hs;have p1:IntKind.i64.wrap (s.last+1)=s.last+1:=aD ⟨by omega,by omega⟩;have p2:IntKind.i64.wrap (1000000*s.id)=1000000*s.id:=aD ⟨by omega,by omega⟩;have t1:decide (t<0)=false:=by simp;omega
 have t2:decide (t>1073741824)=false:=by simp;omega
 have vK:(12:Int)≤(m:Int)∨(999999:Int)<n:=by omega
 clear h hf hsv hm' hfull;go_enter Tryz.func66,Tryz.ntmps66;go_wp2;go_loopw [6] (λi wr=>wr=w∧∃k:Int,(s.last<k∧k≤n)∧i=.i k) (λi _=>(n-intOf i).toNat)
 case atStart=>exact⟨rfl,s.last+1,⟨by omega,by omega⟩,rfl⟩
 obtain⟨rfl,k,⟨hk1,hk2⟩,rfl⟩:=hrel;have q3:IntKind.i64.wrap (1000000*s.id+k)=1000000*s.id+k:=aD ⟨by omega,by omega⟩;have q1:IntKind.i64.wrap (k+1)=k+1:=aD ⟨by omega,by omega⟩;by_cases hkn:k<n
 .have hb:=NG.o.no k hk1 hkn;have MC:Hid (Rc 119 #[.p b,.i (1000000*s.id+k)] wr (.bool true) λw'=>w'=wr):=by rw[<-hb];exact HH.o k
  clear hb HH vK;go_wp2_with (first
   |(go_at_call 119;refine MC.o.mono ?_;rintro e w' ⟨rfl,hw'⟩;subst w'))
  go_roundw
  case rel=>exact⟨by first|rfl|trivial,k+1,⟨by omega,by omega⟩,rfl⟩
  simp[intOf];omega
 have hkn':k=n:=by omega
 subst hkn';have hb:=NG.o.yes;have MC:Hid (Rc 119 #[.p b,.i (1000000*s.id+k)] wr (.bool false) λw'=>w'=wr):=by rw[<-hb];exact HH.o k
 clear hb HH NG;by_cases h0:(12:Int)≤(m:Int)
 .clear vK;go_wp2_with (first
   |(go_at_call 119;refine MC.o.mono ?_;rintro e w' ⟨rfl,hw'⟩;subst w'))
  go_ret2;exact⟨by first|rfl|trivial,by first|rfl|trivial⟩
 have h0':(999999:Int)<k:=by omega
 clear vK;go_wp2_with (first
  |(go_at_call 119;refine MC.o.mono ?_;rintro e w' ⟨rfl,hw'⟩;subst w'))
 go_ret2;exact⟨by first|rfl|trivial,by first|rfl|trivial⟩
theorem Gb(B b:Nat)(s:aK)(g:Int)(j:Nat)(w:World)(h:aC B w b 0 s)(hl:s.ms.length≤12)(hf:fi (λy:Int×Int=>y.1==g) 0 s.ms=(j:Int)):
 Rc 75 #[.p b,.i g] w (.i 0) λw'=>aC B w' b 0 s∧Fr (foot b s) w w':=by
 have R1:=h.lock 1;obtain⟨w1,hw1⟩:=eX (w.setCell (Ad b 0) (.int .i32 1));rw[hw1]at R1;have HL:=lock_free Tryz.muLib (Ad b 0) w h.cells.1 (h.frozen 0);have F1:Fr (foot b s) w w1:=by rw[<-hw1];exact aV b s w _
 have HF:=Hj3 hw1 R1 F1;have HM:=bF B b 1 s g w1 R1 (by omega);rw[hf]at HM;have j0:(0:Int)≤(j:Int):=Int.natCast_nonneg _;clear h hw1 R1 F1 hf;go_enter_defers Tryz.func75,Tryz.ntmps75;go_wp2_with (first
  |(go_at_call 50;refine HL.mono ?_;rintro e w' ⟨rfl,hw'⟩;rw[HF.o.1]at hw';have hw':=hw'.symm;subst hw')
  |(go_at_call 109;refine HM.mono ?_;rintro e w2 ⟨rfl,hfr⟩;have HR2:=Hj2 (HF.o.2.1.aA hfr) (HF.o.2.2.trans hfr (by simp));clear hfr))
 refine leaves_cons (f:=51) (args:=#[.pointer (some ⟨b,0,none⟩)]) (by simp) (by simp[go_sem]) ?_;refine(eK Tryz.muLib (Ad b 0) .returning _ HR2.o.1.cells.1 (HR2.o.1.frozen 0)).mono ?_;rintro e u' w'' ⟨rfl,rfl,rfl⟩;exact⟨_,results_tmp rfl _ _ _,rfl,HR2.o.1.lock 0,HR2.o.2.setCell _ (Or.inl (by simp[foot]))⟩
theorem DK(B b:Nat)(s:aK)(g:Int)(w:World)(h:aC B w b 0 s)(hl:s.ms.length≤12)(hs:s.ss.length≤12)(hf:fi (λy:Int×Int=>y.1==g) 0 s.ms=-1)(hg:fi (λy:Sn=>y.au==g) 0 s.ss=-1):
 Rc 75 #[.p b,.i g] w (.i 3) λw'=>aC B w' b 0 s∧Fr (foot b s) w w':=by
 have R1:=h.lock 1;obtain⟨w1,hw1⟩:=eX (w.setCell (Ad b 0) (.int .i32 1));rw[hw1]at R1;have HL:=lock_free Tryz.muLib (Ad b 0) w h.cells.1 (h.frozen 0);have F1:Fr (foot b s) w w1:=by rw[<-hw1];exact aV b s w _
 have HF:=Hj3 hw1 R1 F1;have HM:=bF B b 1 s g w1 R1 (by omega);rw[hf]at HM;have HS:Hid (∀W,aC B W b 1 s->Rc 53 #[.p b,.i g] W (.i (-1)) λw'=>Fr [] W w'):=λW hW=>by have:=aF B b 1 s g W hW (by omega);rw[hg]at this;exact this
 clear h hw1 R1 F1 hf hg;go_enter_defers Tryz.func75,Tryz.ntmps75;go_wp2_with (first
  |(go_at_call 50;refine HL.mono ?_;rintro e w' ⟨rfl,hw'⟩;rw[HF.o.1]at hw';have hw':=hw'.symm;subst hw')
  |(go_at_call 109;refine HM.mono ?_;rintro e w2 ⟨rfl,hfr⟩;have HR2:=Hj2 (HF.o.2.1.aA hfr) (HF.o.2.2.trans hfr (by simp));clear hfr)
  |(go_at_call 53;refine(HS.o _ HR2.o.1).mono ?_;rintro e w3 ⟨rfl,hfr⟩;have HR3:=Hj2 (HR2.o.1.aA hfr) (HR2.o.2.trans hfr (by simp));clear hfr))
 refine leaves_cons (f:=51) (args:=#[.pointer (some ⟨b,0,none⟩)]) (by simp) (by simp[go_sem]) ?_;refine(eK Tryz.muLib (Ad b 0) .returning _ HR3.o.1.cells.1 (HR3.o.1.frozen 0)).mono ?_;rintro e u' w'' ⟨rfl,rfl,rfl⟩;exact⟨_,results_tmp rfl _ _ _,rfl,HR3.o.1.lock 0,HR3.o.2.setCell _ (Or.inl (by simp[foot]))⟩
theorem DL(B b:Nat)(s:aK)(g:Int)(j:Nat)(w:World)(h:aC B w b 0 s)(hl:s.ms.length=12)(hs:s.ss.length≤12)(hf:fi (λy:Int×Int=>y.1==g) 0 s.ms=-1)(hg:fi (λy:Sn=>y.au==g) 0 s.ss=(j:Int)):
 Rc 75 #[.p b,.i g] w (.i 5) λw'=>aC B w' b 0 s∧Fr (foot b s) w w':=by
 have R1:=h.lock 1;obtain⟨w1,hw1⟩:=eX (w.setCell (Ad b 0) (.int .i32 1));rw[hw1]at R1;have HL:=lock_free Tryz.muLib (Ad b 0) w h.cells.1 (h.frozen 0);have F1:Fr (foot b s) w w1:=by rw[<-hw1];exact aV b s w _
 have HF:=Hj3 hw1 R1 F1;have HM:=bF B b 1 s g w1 R1 (by omega);rw[hf]at HM;have HS:Hid (∀W,aC B W b 1 s->Rc 53 #[.p b,.i g] W (.i j) λw'=>Fr [] W w'):=λW hW=>by have:=aF B b 1 s g W hW (by omega);rw[hg]at this;exact this
 obtain⟨ao,cap,hmv⟩:=ah h.ms;rw[hl]at hmv;have HV:=Hd hmv;have j0:¬((j:Int)<0):=by omega
 clear h hw1 R1 F1 hf hg hmv;go_enter_defers Tryz.func75,Tryz.ntmps75;go_wp2_with (first
  |(go_at_call 50;refine HL.mono ?_;rintro e w' ⟨rfl,hw'⟩;rw[HF.o.1]at hw';have hw':=hw'.symm;subst hw')
  |(go_at_call 109;refine HM.mono ?_;rintro e w2 ⟨rfl,hfr⟩;have HR2:=Hj2 (HF.o.2.1.aA hfr) (HF.o.2.2.trans hfr (by simp));clear hfr)
  |(go_at_call 53;refine(HS.o _ HR2.o.1).mono ?_;rintro e w3 ⟨rfl,hfr⟩;have HR3:=Hj2 (HR2.o.1.aA hfr) (HR2.o.2.trans hfr (by simp));have c6:w3.cell? (Ad b 6)=some (.slice ao 12 cap):=by rw[<-HV.o];exact HR3.o.1.cells.2.2.2.2.2.1
    clear hfr))
 refine leaves_cons (f:=51) (args:=#[.pointer (some ⟨b,0,none⟩)]) (by simp) (by simp[go_sem]) ?_;refine(eK Tryz.muLib (Ad b 0) .returning _ HR3.o.1.cells.1 (HR3.o.1.frozen 0)).mono ?_;rintro e u' w'' ⟨rfl,rfl,rfl⟩;exact⟨_,results_tmp rfl _ _ _,rfl,HR3.o.1.lock 0,HR3.o.2.setCell _ (Or.inl (by simp[foot]))⟩
theorem DN(B b:Nat)(s:ak)(g:Int)(j:Nat)(w:World)(h:aG B w b s)(hl:s.ms.length≤12)(hs:s.sh.length≤12)(hf:fi (λy:Int×Int=>y.1==g) 0 s.ms=(j:Int)):
 Rc 76 #[.p b,.i g] w (.i 0) λw'=>w'=w:=by
 have HM:=dP B b s g w h (by omega);have HS:=aQ B b s g w h (by omega);rw[hf]at HM;generalize fi (λy:aS=>y.au==g) 0 s.sh=i at HS;have j0:(0:Int)≤(j:Int):=Int.natCast_nonneg _;clear h hf;go_enter Tryz.func76,Tryz.ntmps76;go_wp2_with (first
  |(go_at_call 56;refine HS.mono ?_;rintro e w' ⟨rfl,hw'⟩;subst w')
  |(go_at_call 112;refine HM.mono ?_;rintro e w' ⟨rfl,hw'⟩;subst w'))
 go_ret;exact⟨rfl,rfl⟩
theorem Aa(B b:Nat)(s:ak)(g:Int)(w:World)(h:aG B w b s)(hl:s.ms.length≤12)(hs:s.sh.length≤12)(hf:fi (λy:Int×Int=>y.1==g) 0 s.ms=-1)(hg:fi (λy:aS=>y.au==g) 0 s.sh=-1):
 Rc 76 #[.p b,.i g] w (.i 3) λw'=>w'=w:=by
 have HM:=dP B b s g w h (by omega);have HS:=aQ B b s g w h (by omega);rw[hf]at HM;rw[hg]at HS;clear h hf hg;go_enter Tryz.func76,Tryz.ntmps76;go_wp2_with (first
  |(go_at_call 56;refine HS.mono ?_;rintro e w' ⟨rfl,hw'⟩;subst w')
  |(go_at_call 112;refine HM.mono ?_;rintro e w' ⟨rfl,hw'⟩;subst w'))
 go_ret;exact⟨rfl,rfl⟩
theorem Ab(B b:Nat)(s:ak)(g:Int)(j:Nat)(w:World)(h:aG B w b s)(hl:s.ms.length=12)(hs:s.sh.length≤12)(hf:fi (λy:Int×Int=>y.1==g) 0 s.ms=-1)(hg:fi (λy:aS=>y.au==g) 0 s.sh=(j:Int)):
 Rc 76 #[.p b,.i g] w (.i 5) λw'=>w'=w:=by
 have HM:=dP B b s g w h (by omega);have HS:=aQ B b s g w h (by omega);rw[hf]at HM;rw[hg]at HS;obtain⟨ao,cap,hmv⟩:=ah h.ms;rw[hl]at hmv;have c37:w.cell? (Ad b 37)=some (.slice ao 12 cap):=by rw[<-hmv];exact h.cells.2.2.2.2.2
 have j0:¬((j:Int)<0):=by omega
 clear h hf hg hmv;go_enter Tryz.func76,Tryz.ntmps76;go_wp2_with (first
  |(go_at_call 56;refine HS.mono ?_;rintro e w' ⟨rfl,hw'⟩;subst w')
  |(go_at_call 112;refine HM.mono ?_;rintro e w' ⟨rfl,hw'⟩;subst w'))
 go_ret;exact⟨rfl,rfl⟩
def ahead(c:Int)(ms:List (Int×Int)):Nat:=(ms.takeWhile (λy=>decide (y.2<c))).length
def jc(m:Int×Int)(ms:List (Int×Int)):List (Int×Int):=ms.take (ahead m.2 ms)++m::ms.drop (ahead m.2 ms)
theorem gY(c:Int)(y:Int×Int)(r:List (Int×Int)):ahead c (y::r)=if y.2<c then ahead c r+1 else 0:=by unfold ahead;by_cases h:y.2<c<;>simp[h]
theorem sU(c:Int):∀(l:List (Int×Int)),ahead c l≤l.length
 |[]=>by simp[ahead]
 |y::r=>by have:=sU c r;rw[gY];split<;>simp<;>omega
theorem nE(c:Int):∀(l:List (Int×Int))(k:Nat)(h:k<l.length),k≤ahead c l->l[k].2<c->k+1≤ahead c l
 |y::r,0,_,_,hc=>by have hc':y.2<c:=hc;rw[gY,if_pos hc'];omega
 |y::r,k+1,h,hk,hc=>by
  rw[gY]at hk⊢;split at hk
  .have:=nE c r k (by simpa using h) (by omega) (by simpa using hc);rw[if_pos (by assumption)];omega
  omega
theorem nG(c:Int):∀(l:List (Int×Int))(k:Nat)(h:k<l.length),k≤ahead c l->¬l[k].2<c->ahead c l=k
 |y::r,0,_,_,hc=>by have hc':¬y.2<c:=hc;rw[gY,if_neg hc']
 |y::r,k+1,h,hk,hc=>by
  rw[gY]at hk⊢;split at hk
  .rw[if_pos (by assumption),nG c r k (by simpa using h) (by omega) (by simpa using hc)]
  omega
theorem EG(c:Int)(l:List (Int×Int))(h:l.length≤ahead c l):ahead c l=l.length:=by have:=sU c l;omega
theorem zo(m:Int×Int)(l:List (Int×Int)):(jc m l).length=l.length+1:=by have:=sU m.2 l;simp[jc];omega
theorem I7(m:Int×Int)(l:List (Int×Int)):cB (jc m l)=cB (l.take (ahead m.2 l))++dZ m++cB (l.drop (ahead m.2 l)):=by simp[cB,jc]
theorem Fr.pK{F:List Nat}{w w1:World}(h:Fr F w w1)(n:Nat):Fr F w (w1.drewN n):=⟨h.os,h.tape,h.output,h.size,h.block⟩
theorem mM{B b n k:Nat}{w w4 w7:World}{s:ak}{g cm:Int}{mv:Value}(h:aG B w b s)(f4:Fr [] w w4)(f7:Fr [] w4 w7)(hn:s.ms.length=n)(ha:ahead cm s.ms=k)(ho:w7.ownsRow w4.heap.size 152 2 mv (n+1) (cB (s.ms.take k)++[.i g,.i cm]++cB (s.ms.drop k))):
 ∃mv',aG B (w7.setCell (Ad b 37) mv) b (s.lC (jc (g,cm) s.ms) mv')∧Fr (aN b s) w (w7.setCell (Ad b 37) mv)∧(∀k,mv'.ownBlock=some k->w.heap.size≤k):=by
 have f:=f4.trans f7 (by simp);have hBw:B≤w.heap.size:=by have:=h.hb;have:=(h.lt b (by simp[aN])).2;omega
 have e:cB (s.ms.take k)++[.i g,.i cm]++cB (s.ms.drop k)=cB (jc (g,cm) s.ms):=by rw[I7,<-ha];rfl
 rw[e]at ho;refine⟨mv,(h.aA f).lC ?_,(f.mono (by simp)).setCell _ (Or.inl (by simp[aN])),λk hk=>eJ f4.size (av ho hk).1⟩;rw[zo,hn];exact⟨ho.1,ho.2.imp id λ⟨g,cap,cur,e,hb,r⟩=>⟨g,cap,cur,e,eJ (eJ hBw f4.size) hb,r⟩⟩
theorem EH(B b:Nat)(s:ak)(g:Int)(j:Nat)(x:aS)(w:World)(h:aG B w b s)(hl:s.ms.length<12)(hs:s.sh.length≤12)(hf:fi (λy:Int×Int=>y.1==g) 0 s.ms=-1)(hg:fi (λy:aS=>y.au==g) 0 s.sh=(j:Int))(hx:s.sh[j]?=some x)(ha:ahead x.came s.ms<s.ms.length):
 Rc 76 #[.p b,.i g] w (.i 0) λw'=>∃mv,aG B w' b (s.lC (jc (g,x.came) s.ms) mv)∧Fr (aN b s) w w'∧(∀k,mv.ownBlock=some k->w.heap.size≤k):=by
 obtain⟨i0,Nj,hz0,hz1,hz2⟩:=info_parts qG;have hj:j<s.sh.length:=(df.1 hx).1;have HM:=dP B b s g w h (by omega);have HS:=aQ B b s g w h (by omega);rw[hf]at HM;rw[hg]at HS;obtain⟨ao,cap,hsv⟩:=ah h.sh;have ho:=h.sh;rw[hsv]at ho;obtain⟨sg,hsg,hcap,hcc⟩:=aB ho (by omega);subst hsg;have cZ:w.cell? (Ad b 36)=some (.slice (some (Ad sg 0)) s.sh.length cap):=by rw[<-hsv];exact h.cells.2.2.2.2.1
 obtain⟨cm,hcm⟩:=eX x.came;have d3:w.cell? (Ad sg (j*36+3))=some (.i cm):=by
  rw[h.fE hsv j hj 3 (by omega)];rw[dp hj]at hx;have:s.sh[j]=x:=by simpa using hx
  rw[this,<-hcm];rfl
 rw[hcm]at ha⊢;obtain⟨mo,jm,hmv⟩:=ah h.ms;have c37:w.cell? (Ad b 37)=some (.slice mo s.ms.length jm):=by rw[<-hmv];exact h.cells.2.2.2.2.2
 obtain⟨n,hn⟩:=eX s.ms.length;have HO:Hid (aG B w b s∧s.mv=.slice mo n jm∧s.ms.length=n∧ahead cm s.ms<n∧Tryz.prog.info? 152=some i0):=⟨h,by rw[hmv,hn],hn,by rw[<-hn];exact ha,Nj⟩;obtain⟨m,hm⟩:=eX s.sh.length;rw[hn]at c37 hl;rw[hm]at cZ hcap hj hs;have j0:¬((j:Int)<0):=by omega
 have hjm:(j:Int)<(m:Int):=by omega
 have n12:¬((12:Int)≤(n:Int)):=by omega
 obtain⟨w1,hw1⟩:=eX (w.alloc (.cells #[.i g,.i cm] 152));obtain⟨mb,hmb⟩:=eX w.heap.size;have HW:Hid (Fr [] w w1∧w1.heap[mb]?=some (.cells #[.i g,.i cm] 152 (0,0))∧0≤ahead cm s.ms):=⟨by rw[<-hw1];exact fR.alloc _,by rw[<-hw1,<-hmb];exact di w _,dC _⟩;have HMB:=Hd hmb;clear h hf hg hx ho hsv hcc hmv hn hm hcm Nj ha;go_enter Tryz.func76,Tryz.ntmps76;go_wp2_with (first
  |(go_at_call 56;refine HS.mono ?_;rintro e w' ⟨rfl,hw'⟩;subst w')
  |(go_at_call 112;refine HM.mono ?_;rintro e w' ⟨rfl,hw'⟩;subst w'))
 clear hw1 hmb HS HM cZ d3 c37;go_loopw [8] (λi wr=>∃k:Nat,k≤n∧i=.i k∧Hid (Fr [] w wr∧wr.heap[mb]?=some (.cells #[.i g,.i cm] 152 (0,0))∧k≤ahead cm s.ms)) (λi _=>n-(intOf i).toNat)
 case atStart=>exact⟨0,dC _,rfl,HW⟩
 obtain⟨k,hk,rfl,HK⟩:=hrel;obtain⟨W3,hW3⟩:=eY wr;subst hW3;clear HW;have R3:=HO.o.1.aA HK.o.1;have e37:∀q,(W3.drewN q).cell? (Ad b 37)=some (.slice mo n jm):=λq=>by have:=R3.cells.2.2.2.2.2;rw[HO.o.2.1]at this;exact this
 have em:∀q,(W3.drewN q).cell? (Ad mb 1)=some (.i cm):=λq=>by show W3.cell? (Ad mb 1)=_;rw[cell_of HK.o.2.1];rfl
 by_cases hlt:k<n
 .have hlt':k<s.ms.length:=by rw[HO.o.2.2.1];exact hlt
  have ho:=R3.ms;rw[HO.o.2.1,HO.o.2.2.1]at ho;obtain⟨gg,hgg,hgc,hcc⟩:=aB ho (by omega);subst hgg;obtain⟨y,hy⟩:=eX s.ms[k].2;have ed:∀q,(W3.drewN q).cell? (Ad gg (k*2+1))=some (.i y):=λq=>by show W3.cell? (Ad gg (k*2+1))=_;rw[hcc _ (by omega),(jE s.ms k hlt').2,hy]
  have g1:(k:Int)<(n:Int):=by omega
  have g0:decide ((k:Int)<(n:Int))=true:=by simpa using g1
  have PU:=Hd hcc;clear ho hcc R3;by_cases hc:y<cm
  .have hdec:decide (y<cm)=true:=by simpa using hc
   have zT:Hid (∀q,Fr [] w (W3.drewN q)∧(W3.drewN q).heap[mb]?=some (.cells #[.i g,.i cm] 152 (0,0))∧k+1≤ahead cm s.ms):=λq=>⟨HK.o.1.pK q,HK.o.2.1,nE cm s.ms k hlt' HK.o.2.2 (by rw[hy];exact hc)⟩;clear HK hy;go_wp2;go_quiet (fail)
   go_wp2;go_roundw
   case rel=>exact⟨k+1,by omega,by go_num,zT.o _⟩
   simp[intOf];omega
  have hdec:decide (y<cm)=false:=by simpa using hc
  have HA:=Hd (nG cm s.ms k hlt' HK.o.2.2 (by rw[hy];exact hc));clear hy;go_wp2;go_quiet (fail)
  have JY:W3.cell? (Ad mb 0)=some (.i g):=ce HK.o.2.1 rfl;have H4:Hid (Fr [] w (W3.drewN nq)∧(∀t,t<n*2->(W3.drewN nq).cell? (Ad gg t)=(cB s.ms)[t]?)):=⟨HK.o.1.pK nq,PU.o⟩;have f37:=e37 nq;have JZ:(W3.drewN nq).cell? (Ad mb 0)=some (.i g):=JY;have J2:=em nq;generalize W3.drewN nq=W4 at H4 f37 JZ J2⊢;have i1:(k:Int)≤(n:Int):=by omega
  have i2:(k:Int)≤(jm:Int):=by omega
  have i5:(n:Int)≤(jm:Int):=by omega
  have i6:¬jm=k:=by omega
  have i7:0≤(k:Int):=Int.natCast_nonneg _;have hi:=HO.o.2.2.2.2;clear e37 em ed HK PU JY;go_wp2_with (first
   |(at_builtin;refine wpList_append_own _ rfl _ _ 144 rfl W4.heap.size 152 i0 _ 2 16 Tryz.underlying144 hi hz0 hz1 hz2 rfl (by omega) (.slice none 0 0) 0 [] rfl (eA _ _ _ _) (Ad gg 0) k jm (cB (s.ms.take k)) rfl (by rw[dM,eM,HO.o.2.2.1,fN (by omega)]) (λt u hu=>by
      rw[Addr.add_lit,eV,<-jo]at*;have ht:t<k*2:=by have:=(df.1 hu).1;rw[eM]at this;omega
      rw[eQ ht]at hu;rw[H4.o.2 t (by omega)];exact hu) mk_one (by unfold maxLen;omega) (by omega) (eh _) ?_;intro v5 w5 hown5 bY _
     rw[eV,fe]at hown5;have H5:Hid (w5.ownsRow W4.heap.size 152 2 v5 k (cB (s.ms.take k))∧Fr [] W4 w5):=⟨hown5,fR.grown bY (λx hx=>by simp[Value.ownBlock]at hx)⟩;have Ut:w5.cell? (Ad b 37)=some (.slice (some (Ad gg 0)) n jm):=H5.o.2.gb.cell f37 (by simp);have Uu:w5.cell? (Ad mb 0)=some (.i g):=H5.o.2.gb.cell JZ (by simp);have Uv:w5.cell? (Ad mb 1)=some (.i cm):=H5.o.2.gb.cell J2 (by simp);obtain⟨EF,c5,e5⟩:=ah H5.o.1;subst e5;clear hown5 bY)
   |(at_builtin;refine wpList_append_own _ rfl _ _ 144 rfl W4.heap.size 152 i0 _ 2 16 Tryz.underlying144 hi hz0 hz1 hz2 rfl (by omega) (.slice EF k c5) k _ rfl (H5.o.1.alloc _) (Ad w5.heap.size 0) 1 1 [.i g,.i cm] rfl rfl (World.news_of_block (cs:=#[.i g,.i cm]) (t:=152) (fr:=(0,0)) (di w5 _)) (by simp[Value.oneCell']) (by unfold maxLen;omega) (by omega) (by have:=H5.o.2.size;simp;omega) ?_;intro v6 w6 hown6 dw _;have H6:Hid (w6.ownsRow W4.heap.size 152 2 v6 (k+1) (cB (s.ms.take k)++[.i g,.i cm])∧Fr [] W4 w6):=⟨hown6,(H5.o.2.alloc _).grown dw (λk hk=>Or.inr (av H5.o.1 hk).1)⟩;have I8:w6.cell? (Ad b 37)=some (.slice (some (Ad gg 0)) n jm):=H6.o.2.gb.cell f37 (by simp);obtain⟨IY,c6,e6⟩:=ah H6.o.1;subst e6;clear hown6 dw)
   |(at_builtin;refine wpList_append_own _ rfl _ _ 144 rfl W4.heap.size 152 i0 _ 2 16 Tryz.underlying144 hi hz0 hz1 hz2 rfl (by omega) (.slice IY (k+1) c6) (k+1) _ rfl H6.o.1 (Ad gg (k*2)) (n-k) (jm-k) (cB (s.ms.drop k)) rfl (by rw[dM,gj,HO.o.2.2.1]) (λt u hu=>by
      rw[Addr.add_lit];have ht:t<(n-k)*2:=by have:=(df.1 hu).1;rw[dM,gj,HO.o.2.2.1]at this;exact this
      rw[<-om,List.getElem?_drop,<-H4.o.2 _ (by omega)]at hu;exact H6.o.2.gb.cell hu (by simp)) mk_one (by unfold maxLen;omega) (by omega) H6.o.2.size ?_;intro v7 w7 jY gX _
     rw[show k+1+(n-k)=n+1 by omega]at jY;have H7:Hid (w7.ownsRow W4.heap.size 152 2 v7 (n+1) (cB (s.ms.take k)++[.i g,.i cm]++cB (s.ms.drop k))∧Fr [] W4 w7):=⟨jY,H6.o.2.grown gX (λk hk=>Or.inr (av H6.o.1 hk).1)⟩;have Uw:w7.cell? (Ad b 37)=some (.slice (some (Ad gg 0)) n jm):=H7.o.2.gb.cell f37 (by simp);have fz:w7.frozen? (Ad b 37)=false:=(HO.o.1.aA (H4.o.1.trans H7.o.2 (by simp))).frozen 37;obtain⟨Z8,c7,e7⟩:=ah H7.o.1;subst e7;clear jY gX))
  go_ret;exact⟨rfl,mM HO.o.1 H4.o.1 H7.o.2 HO.o.2.2.1 HA.o H7.o.1⟩
 have hkk:k=n:=by omega
 exact absurd HK.o.2.2 (by have:=HO.o.2.2.2.1;omega)
theorem EI{w:World}{base:Nat}{e:TypeId}{size:Nat}{a:Option Addr}{c:Nat}{n:Nat}{xs:List Value}(h:w.ownsRow base e size (.slice a n c) n xs):(a=none∧n=0∧c=0)∨∃g,a=some (Ad g 0)∧n≤c∧∀j,j<n*size->w.cell? (Ad g j)=xs[j]?:=by
 rcases h.2 with⟨h1,h2⟩|⟨g,c,cur,h1,hb,hg,hc,hm,hs,ht⟩
 .simp at h1;exact Or.inl ⟨h1.1,h2,h1.2.2⟩
 simp at h1;obtain⟨rfl,rfl⟩:=h1;refine Or.inr ⟨g,rfl,hc,λj hj=>?_⟩;rw[cell_of hg,<-ht,eQ hj,<-fw]
theorem Bp(B b:Nat)(s:ak)(g:Int)(j:Nat)(x:aS)(w:World)(h:aG B w b s)(hl:s.ms.length<12)(hs:s.sh.length≤12)(hf:fi (λy:Int×Int=>y.1==g) 0 s.ms=-1)(hg:fi (λy:aS=>y.au==g) 0 s.sh=(j:Int))(hx:s.sh[j]?=some x)(ha:ahead x.came s.ms=s.ms.length)(hne:s.mv≠.slice none 0 0):
 Rc 76 #[.p b,.i g] w (.i 0) λw'=>∃mv,aG B w' b (s.lC (jc (g,x.came) s.ms) mv)∧Fr (aN b s) w w'∧(∀k,mv.ownBlock=some k->w.heap.size≤k):=by
 obtain⟨i0,Nj,hz0,hz1,hz2⟩:=info_parts qG;have hj:j<s.sh.length:=(df.1 hx).1;have HM:=dP B b s g w h (by omega);have HS:=aQ B b s g w h (by omega);rw[hf]at HM;rw[hg]at HS;obtain⟨ao,cap,hsv⟩:=ah h.sh;have ho:=h.sh;rw[hsv]at ho;obtain⟨sg,hsg,hcap,hcc⟩:=aB ho (by omega);subst hsg;have cZ:w.cell? (Ad b 36)=some (.slice (some (Ad sg 0)) s.sh.length cap):=by rw[<-hsv];exact h.cells.2.2.2.2.1
 obtain⟨cm,hcm⟩:=eX x.came;have d3:w.cell? (Ad sg (j*36+3))=some (.i cm):=by
  rw[h.fE hsv j hj 3 (by omega)];rw[dp hj]at hx;have:s.sh[j]=x:=by simpa using hx
  rw[this,<-hcm];rfl
 rw[hcm]at ha⊢;obtain⟨mo,jm,hmv⟩:=ah h.ms;have c37:w.cell? (Ad b 37)=some (.slice mo s.ms.length jm):=by rw[<-hmv];exact h.cells.2.2.2.2.2
 obtain⟨n,hn⟩:=eX s.ms.length;have HO:Hid (aG B w b s∧s.mv=.slice mo n jm∧s.ms.length=n∧ahead cm s.ms=n∧Tryz.prog.info? 152=some i0):=⟨h,by rw[hmv,hn],hn,by rw[<-hn];exact ha,Nj⟩;obtain⟨m,hm⟩:=eX s.sh.length;rw[hn]at c37 hl;rw[hm]at cZ hcap hj hs;have j0:¬((j:Int)<0):=by omega
 have hjm:(j:Int)<(m:Int):=by omega
 have n12:¬((12:Int)≤(n:Int)):=by omega
 obtain⟨w1,hw1⟩:=eX (w.alloc (.cells #[.i g,.i cm] 152));obtain⟨mb,hmb⟩:=eX w.heap.size;have HW:Hid (Fr [] w w1∧w1.heap[mb]?=some (.cells #[.i g,.i cm] 152 (0,0))∧0≤ahead cm s.ms):=⟨by rw[<-hw1];exact fR.alloc _,by rw[<-hw1,<-hmb];exact di w _,dC _⟩;have HMB:=Hd hmb;have xC:=Hd hne;clear h hf hg hx ho hsv hcc hmv hn hm hcm Nj ha hne;go_enter Tryz.func76,Tryz.ntmps76;go_wp2_with (first
  |(go_at_call 56;refine HS.mono ?_;rintro e w' ⟨rfl,hw'⟩;subst w')
  |(go_at_call 112;refine HM.mono ?_;rintro e w' ⟨rfl,hw'⟩;subst w'))
 clear hw1 hmb HS HM cZ d3 c37;go_loopw [8] (λi wr=>∃k:Nat,k≤n∧i=.i k∧Hid (Fr [] w wr∧wr.heap[mb]?=some (.cells #[.i g,.i cm] 152 (0,0))∧k≤ahead cm s.ms)) (λi _=>n-(intOf i).toNat)
 case atStart=>exact⟨0,dC _,rfl,HW⟩
 obtain⟨k,hk,rfl,HK⟩:=hrel;obtain⟨W3,hW3⟩:=eY wr;subst hW3;clear HW;have R3:=HO.o.1.aA HK.o.1;have e37:∀q,(W3.drewN q).cell? (Ad b 37)=some (.slice mo n jm):=λq=>by have:=R3.cells.2.2.2.2.2;rw[HO.o.2.1]at this;exact this
 have em:∀q,(W3.drewN q).cell? (Ad mb 1)=some (.i cm):=λq=>by show W3.cell? (Ad mb 1)=_;rw[cell_of HK.o.2.1];rfl
 by_cases hlt:k<n
 .have hlt':k<s.ms.length:=by rw[HO.o.2.2.1];exact hlt
  have ho:=R3.ms;rw[HO.o.2.1,HO.o.2.2.1]at ho;obtain⟨gg,hgg,hgc,hcc⟩:=aB ho (by omega);subst hgg;obtain⟨y,hy⟩:=eX s.ms[k].2;have ed:∀q,(W3.drewN q).cell? (Ad gg (k*2+1))=some (.i y):=λq=>by show W3.cell? (Ad gg (k*2+1))=_;rw[hcc _ (by omega),(jE s.ms k hlt').2,hy]
  have g1:(k:Int)<(n:Int):=by omega
  have g0:decide ((k:Int)<(n:Int))=true:=by simpa using g1
  clear ho hcc R3;by_cases hc:y<cm
  .have hdec:decide (y<cm)=true:=by simpa using hc
   have zT:Hid (∀q,Fr [] w (W3.drewN q)∧(W3.drewN q).heap[mb]?=some (.cells #[.i g,.i cm] 152 (0,0))∧k+1≤ahead cm s.ms):=λq=>⟨HK.o.1.pK q,HK.o.2.1,nE cm s.ms k hlt' HK.o.2.2 (by rw[hy];exact hc)⟩;clear HK hy;go_wp2;go_quiet (fail)
   go_wp2;go_roundw
   case rel=>exact⟨k+1,by omega,by go_num,zT.o _⟩
   simp[intOf];omega
  exact absurd (nG cm s.ms k hlt' HK.o.2.2 (by rw[hy];exact hc)) (by have:=HO.o.2.2.2.1;omega)
 have hkk:k=n:=by omega
 subst hkk;have g0:decide ((k:Int)<(k:Int))=false:=by simp
 have JY:W3.cell? (Ad mb 0)=some (.i g):=ce HK.o.2.1 rfl;have ho:=R3.ms;rw[HO.o.2.1,HO.o.2.2.1]at ho;have hi:=HO.o.2.2.2.2;have HD:Hid (cB (s.ms.drop k)=[]):=by show _=_;rw[jt (by rw[HO.o.2.2.1];omega)];rfl
 clear R3;rcases EI ho with⟨rfl,rfl,rfl⟩|⟨gg,rfl,hgc,hcc⟩
 .exact absurd HO.o.2.1 xC.o
 have PU:=Hd hcc;clear ho hcc;by_cases hkc:jm=k
 .have hkc:=hkc.symm;subst hkc;go_wp2;go_quiet (fail)
  have H4:Hid (Fr [] w (W3.drewN nq)∧(∀t,t<k*2->(W3.drewN nq).cell? (Ad gg t)=(cB s.ms)[t]?)):=⟨HK.o.1.pK nq,PU.o⟩;have f37:=e37 nq;have JZ:(W3.drewN nq).cell? (Ad mb 0)=some (.i g):=JY;have J2:=em nq;generalize W3.drewN nq=W4 at H4 f37 JZ J2⊢;clear e37 em HK PU JY;have i7:0≤(k:Int):=Int.natCast_nonneg _;go_wp2_with (first
   |(at_builtin;refine wpList_append_own _ rfl _ _ 144 rfl W4.heap.size 152 i0 _ 2 16 Tryz.underlying144 hi hz0 hz1 hz2 rfl (by omega) (.slice none 0 0) 0 [] rfl (eA _ _ _ _) (Ad gg 0) k k (cB (s.ms.take k)) rfl (by rw[dM,eM,HO.o.2.2.1,fN (by omega)]) (λt u hu=>by
      rw[Addr.add_lit,eV,<-jo]at*;have ht:t<k*2:=by have:=(df.1 hu).1;rw[eM]at this;omega
      rw[eQ ht]at hu;rw[H4.o.2 t (by omega)];exact hu) mk_one (by unfold maxLen;omega) (by omega) (eh _) ?_;intro v5 w5 hown5 bY _
     rw[eV,fe]at hown5;have H5:Hid (w5.ownsRow W4.heap.size 152 2 v5 k (cB (s.ms.take k))∧Fr [] W4 w5):=⟨hown5,fR.grown bY (λx hx=>by simp[Value.ownBlock]at hx)⟩;have Ut:w5.cell? (Ad b 37)=some (.slice (some (Ad gg 0)) k k):=H5.o.2.gb.cell f37 (by simp);have Uu:w5.cell? (Ad mb 0)=some (.i g):=H5.o.2.gb.cell JZ (by simp);have Uv:w5.cell? (Ad mb 1)=some (.i cm):=H5.o.2.gb.cell J2 (by simp);obtain⟨EF,c5,e5⟩:=ah H5.o.1;subst e5;clear hown5 bY)
   |(at_builtin;refine wpList_append_own _ rfl _ _ 144 rfl W4.heap.size 152 i0 _ 2 16 Tryz.underlying144 hi hz0 hz1 hz2 rfl (by omega) (.slice EF k c5) k _ rfl (H5.o.1.alloc _) (Ad w5.heap.size 0) 1 1 [.i g,.i cm] rfl rfl (World.news_of_block (cs:=#[.i g,.i cm]) (t:=152) (fr:=(0,0)) (di w5 _)) (by simp[Value.oneCell']) (by unfold maxLen;omega) (by omega) (by have:=H5.o.2.size;simp;omega) ?_;intro v6 w6 hown6 dw _;have H6:Hid (w6.ownsRow W4.heap.size 152 2 v6 (k+1) (cB (s.ms.take k)++[.i g,.i cm])∧Fr [] W4 w6):=⟨hown6,(H5.o.2.alloc _).grown dw (λk hk=>Or.inr (av H5.o.1 hk).1)⟩;have I8:w6.cell? (Ad b 37)=some (.slice (some (Ad gg 0)) k k):=H6.o.2.gb.cell f37 (by simp);obtain⟨IY,c6,e6⟩:=ah H6.o.1;subst e6;clear hown6 dw)
   |(at_builtin;refine wpList_append_own _ rfl _ _ 144 rfl W4.heap.size 152 i0 _ 2 16 Tryz.underlying144 hi hz0 hz1 hz2 rfl (by omega) (.slice IY (k+1) c6) (k+1) _ rfl H6.o.1 (Ad gg 0) 0 (0) [] rfl rfl (by simp) (by simp) (by unfold maxLen;omega) (by omega) H6.o.2.size ?_;intro v7 w7 jY gX _;rw[ix]at jY;have H7:Hid (w7.ownsRow W4.heap.size 152 2 v7 (k+1) (cB (s.ms.take k)++[.i g,.i cm]++cB (s.ms.drop k))∧Fr [] W4 w7):=⟨by rw[HD.o];exact jY,H6.o.2.grown gX (λk hk=>Or.inr (av H6.o.1 hk).1)⟩;have Uw:w7.cell? (Ad b 37)=some (.slice (some (Ad gg 0)) k k):=H7.o.2.gb.cell f37 (by simp);have fz:w7.frozen? (Ad b 37)=false:=(HO.o.1.aA (H4.o.1.trans H7.o.2 (by simp))).frozen 37;obtain⟨Z8,c7,e7⟩:=ah H7.o.1;subst e7;clear jY gX))
  go_ret;exact⟨rfl,mM HO.o.1 H4.o.1 H7.o.2 HO.o.2.2.1 HO.o.2.2.2.1 H7.o.1⟩
 go_wp2;go_quiet (fail)
 have H4:Hid (Fr [] w (W3.drewN nq)∧(∀t,t<k*2->(W3.drewN nq).cell? (Ad gg t)=(cB s.ms)[t]?)):=⟨HK.o.1.pK nq,PU.o⟩;have f37:=e37 nq;have JZ:(W3.drewN nq).cell? (Ad mb 0)=some (.i g):=JY;have J2:=em nq;generalize W3.drewN nq=W4 at H4 f37 JZ J2⊢;clear e37 em HK PU JY;have i2:(k:Int)≤(jm:Int):=by omega
 have i6:¬jm=k:=by omega
 have i7:0≤(k:Int):=Int.natCast_nonneg _;go_wp2_with (first
  |(at_builtin;refine wpList_append_own _ rfl _ _ 144 rfl W4.heap.size 152 i0 _ 2 16 Tryz.underlying144 hi hz0 hz1 hz2 rfl (by omega) (.slice none 0 0) 0 [] rfl (eA _ _ _ _) (Ad gg 0) k jm (cB (s.ms.take k)) rfl (by rw[dM,eM,HO.o.2.2.1,fN (by omega)]) (λt u hu=>by
     rw[Addr.add_lit,eV,<-jo]at*;have ht:t<k*2:=by have:=(df.1 hu).1;rw[eM]at this;omega
     rw[eQ ht]at hu;rw[H4.o.2 t (by omega)];exact hu) mk_one (by unfold maxLen;omega) (by omega) (eh _) ?_;intro v5 w5 hown5 bY _
    rw[eV,fe]at hown5;have H5:Hid (w5.ownsRow W4.heap.size 152 2 v5 k (cB (s.ms.take k))∧Fr [] W4 w5):=⟨hown5,fR.grown bY (λx hx=>by simp[Value.ownBlock]at hx)⟩;have Ut:w5.cell? (Ad b 37)=some (.slice (some (Ad gg 0)) k jm):=H5.o.2.gb.cell f37 (by simp);have Uu:w5.cell? (Ad mb 0)=some (.i g):=H5.o.2.gb.cell JZ (by simp);have Uv:w5.cell? (Ad mb 1)=some (.i cm):=H5.o.2.gb.cell J2 (by simp);obtain⟨EF,c5,e5⟩:=ah H5.o.1;subst e5;clear hown5 bY)
  |(at_builtin;refine wpList_append_own _ rfl _ _ 144 rfl W4.heap.size 152 i0 _ 2 16 Tryz.underlying144 hi hz0 hz1 hz2 rfl (by omega) (.slice EF k c5) k _ rfl (H5.o.1.alloc _) (Ad w5.heap.size 0) 1 1 [.i g,.i cm] rfl rfl (World.news_of_block (cs:=#[.i g,.i cm]) (t:=152) (fr:=(0,0)) (di w5 _)) (by simp[Value.oneCell']) (by unfold maxLen;omega) (by omega) (by have:=H5.o.2.size;simp;omega) ?_;intro v6 w6 hown6 dw _;have H6:Hid (w6.ownsRow W4.heap.size 152 2 v6 (k+1) (cB (s.ms.take k)++[.i g,.i cm])∧Fr [] W4 w6):=⟨hown6,(H5.o.2.alloc _).grown dw (λk hk=>Or.inr (av H5.o.1 hk).1)⟩;have I8:w6.cell? (Ad b 37)=some (.slice (some (Ad gg 0)) k jm):=H6.o.2.gb.cell f37 (by simp);obtain⟨IY,c6,e6⟩:=ah H6.o.1;subst e6;clear hown6 dw)
  |(at_builtin;refine wpList_append_own _ rfl _ _ 144 rfl W4.heap.size 152 i0 _ 2 16 Tryz.underlying144 hi hz0 hz1 hz2 rfl (by omega) (.slice IY (k+1) c6) (k+1) _ rfl H6.o.1 (Ad gg (k*2)) 0 (jm-k) [] rfl rfl (by simp) (by simp) (by unfold maxLen;omega) (by omega) H6.o.2.size ?_;intro v7 w7 jY gX _;rw[ix]at jY;have H7:Hid (w7.ownsRow W4.heap.size 152 2 v7 (k+1) (cB (s.ms.take k)++[.i g,.i cm]++cB (s.ms.drop k))∧Fr [] W4 w7):=⟨by rw[HD.o];exact jY,H6.o.2.grown gX (λk hk=>Or.inr (av H6.o.1 hk).1)⟩;have Uw:w7.cell? (Ad b 37)=some (.slice (some (Ad gg 0)) k jm):=H7.o.2.gb.cell f37 (by simp);have fz:w7.frozen? (Ad b 37)=false:=(HO.o.1.aA (H4.o.1.trans H7.o.2 (by simp))).frozen 37;obtain⟨Z8,c7,e7⟩:=ah H7.o.1;subst e7;clear jY gX))
 go_ret;exact⟨rfl,mM HO.o.1 H4.o.1 H7.o.2 HO.o.2.2.1 HO.o.2.2.2.1 H7.o.1⟩
end Go.Proofs.YtjceeemlilnplaaGreatDoor
