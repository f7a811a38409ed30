import Derived.Test.YtjceeemlilnplaaGreatDoorM01
import Derived.Shelf.SlSortCmp.WholeK
import Derived.Test.YtjceeemlilnplaaGreatDoorProg
import Derived.Shelf.SlGeneric
import Derived.Test.YtjceeemlilnplaaGreatDoorM04
import Derived.Lib.OwnBridge
set_option maxRecDepth 100000
set_option maxHeartbeats 12800000
set_option linter.all false
namespace Go.Proofs
open Go.Shelf
def Tryz.sortM_ren:Go.Shelf.Ren:=⟨fun|6=>122|15=>161|14=>160|28=>197|29=>198|20=>189|21=>190|22=>191|23=>192|24=>193|25=>194|26=>195|27=>196|46=>210|47=>211|48=>212|49=>213|50=>214|57=>222|n=>n,fun|22=>133|24=>150|25=>215|3=>3|39=>243|0=>0|53=>125|55=>280|4=>4|46=>273|45=>272|50=>157|5=>5|9=>9|66=>288|70=>292|76=>295|77=>169|n=>n,fun|n=>n⟩
theorem Tryz.sortM:Go.Proofs.SlLaysF0.n6 Tryz.prog Tryz.sortM_ren:={
 mixed:=by kernel_rfl
 f6:=⟨Tryz.f122.name,by decide,Tryz.func122.trans (congrArg some (by kernel_rfl))⟩
 f14:=⟨Tryz.f160.name,by decide,Tryz.func160.trans (congrArg some (by kernel_rfl))⟩
 f15:=Tryz.func161.trans (congrArg some (by kernel_rfl))
 f20:=⟨Tryz.f189.name,by decide,Tryz.func189.trans (congrArg some (by kernel_rfl))⟩
 f21:=⟨Tryz.f190.name,by decide,Tryz.func190.trans (congrArg some (by kernel_rfl))⟩
 f22:=⟨Tryz.f191.name,by decide,Tryz.func191.trans (congrArg some (by kernel_rfl))⟩
 f23:=⟨Tryz.f192.name,by decide,Tryz.func192.trans (congrArg some (by kernel_rfl))⟩
 f24:=⟨Tryz.f193.name,by decide,Tryz.func193.trans (congrArg some (by kernel_rfl))⟩
 f25:=⟨Tryz.f194.name,by decide,Tryz.func194.trans (congrArg some (by kernel_rfl))⟩
 f26:=⟨Tryz.f195.name,by decide,Tryz.func195.trans (congrArg some (by kernel_rfl))⟩
 f27:=⟨Tryz.f196.name,by decide,Tryz.func196.trans (congrArg some (by kernel_rfl))⟩
 f28:=Tryz.func197.trans (congrArg some (by kernel_rfl))
 f29:=Tryz.func198.trans (congrArg some (by kernel_rfl))
 f46:=⟨Tryz.f210.name,by decide,Tryz.func210.trans (congrArg some (by kernel_rfl))⟩
 f47:=Tryz.func211.trans (congrArg some (by kernel_rfl))
 f48:=Tryz.func212.trans (congrArg some (by kernel_rfl))
 f49:=⟨Tryz.f213.name,by decide,Tryz.func213.trans (congrArg some (by kernel_rfl))⟩
 f50:=⟨Tryz.f214.name,by decide,Tryz.func214.trans (congrArg some (by kernel_rfl))⟩
 f57:=⟨Tryz.f222.name,by decide,Tryz.func222.trans (congrArg some (by kernel_rfl))⟩
 t0:=Tryz.underlying0
 a0:=Tryz.isAgg0
 z0:=Tryz.sizeOf0
 v0:=Tryz.zeroValue0
 t3:=Tryz.underlying3
 a3:=Tryz.isAgg3
 z3:=Tryz.sizeOf3
 v3:=Tryz.zeroValue3
 t4:=Tryz.underlying4
 a4:=Tryz.isAgg4
 z4:=Tryz.sizeOf4
 v4:=Tryz.zeroValue4
 t5:=Tryz.underlying5
 a5:=Tryz.isAgg5
 z5:=Tryz.sizeOf5
 v5:=Tryz.zeroValue5
 t9:=Tryz.underlying9
 a9:=Tryz.isAgg9
 z9:=Tryz.sizeOf9
 v9:=Tryz.zeroValue9
 t22:=Tryz.underlying133
 a22:=Tryz.isAgg133
 z22:=Tryz.sizeOf133
 v22:=Tryz.zeroValue133
 t25:=Tryz.underlying215
 a25:=Tryz.isAgg215
 z25:=Tryz.sizeOf215
 v25:=Tryz.zeroValue215
 t39:=Tryz.underlying243
 a39:=Tryz.isAgg243
 z39:=Tryz.sizeOf243
 v39:=Tryz.zeroValue243
 t45:=Tryz.underlying272
 a45:=Tryz.isAgg272
 z45:=Tryz.sizeOf272
 v45:=Tryz.zeroValue272
 t46:=Tryz.underlying273
 a46:=Tryz.isAgg273
 z46:=Tryz.sizeOf273
 v46:=Tryz.zeroValue273
 t50:=Tryz.underlying157
 a50:=Tryz.isAgg157
 z50:=Tryz.sizeOf157
 v50:=Tryz.zeroValue157
 t53:=Tryz.underlying125
 a53:=Tryz.isAgg125
 z53:=Tryz.sizeOf125
 v53:=Tryz.zeroValue125
 t55:=Tryz.underlying280
 a55:=Tryz.isAgg280
 z55:=Tryz.sizeOf280
 v55:=Tryz.zeroValue280
 t66:=Tryz.underlying288
 a66:=Tryz.isAgg288
 z66:=Tryz.sizeOf288
 v66:=Tryz.zeroValue288
 t70:=Tryz.underlying292
 a70:=Tryz.isAgg292
 z70:=Tryz.sizeOf292
 v70:=Tryz.zeroValue292
 t76:=Tryz.underlying295
 a76:=Tryz.isAgg295
 z76:=Tryz.sizeOf295
 v76:=Tryz.zeroValue295
 t77:=Tryz.underlying169
 a77:=Tryz.isAgg169
 z77:=Tryz.sizeOf169
 v77:=Tryz.zeroValue169}
end Go.Proofs
namespace Go.Proofs.YtjceeemlilnplaaGreatDoor
open Go.RowKit Go.Maps Go.MuLone Go.Sort Go.Lib Go.Shelf
def Mk:Type:={x:Int×Int // 0≤x.2∧x.2≤1000000000000}
def tZ(x:Mk):List Value:=dZ x.1
def Qz(x y:Mk):Int:=x.1.2-y.1.2
theorem Vv(x y:Mk):ltOf Qz x y=decide (x.1.2<y.1.2):=by
 unfold ltOf Qz;by_cases h:x.1.2<y.1.2
 .rw[decide_eq_true h];exact decide_eq_true (by omega)
 rw[kB h];exact kB (by omega)
theorem Wx:SWO (ltOf Qz) where
 irrefl x:=by rw[Vv];simp
 trans x y z h1 h2:=by rw[Vv]at*;simp at*;omega
 ntrans x y z h1 h2:=by rw[Vv]at*;simp at*;omega
theorem N9(x y:Mk)(w:World):
 Rc 123 #[.agg #[.i x.1.1,.i x.1.2],.agg #[.i y.1.1,.i y.1.2]] w (.i (Qz x y)) λw'=>w'=(w.alloc (.cells #[.i x.1.1,.i x.1.2] 150)).alloc (.cells #[.i y.1.1,.i y.1.2] 150):=by
 have h1:=x.2;have h2:=y.2;obtain⟨a,ha⟩:=eX x.1.2;obtain⟨b,hb⟩:=eX y.1.2;unfold Qz;rw[ha,hb];rw[ha]at h1;rw[hb]at h2;have hwr:IntKind.i64.wrap (a-b)=a-b:=aD ⟨by omega,by omega⟩;go_enter Tryz.func123,Tryz.ntmps123;go_wp2;go_ret;exact⟨rfl,rfl⟩
section
variable [Inhabited Mk]
theorem MH(d:Array Mk)(j:Nat)(hj:j<d.size*2):(cB (d.toList.map λx=>x.1))[j]?=some (flatK tZ 2 d)[j]!:=by
 rw[get_flatK tZ 2 d j hj];have hi:j / 2<d.size:=by omega
 have hl:j / 2<(d.toList.map λx=>x.1).length:=by simpa using hi
 have h1:=flat_get (f:=dZ) (k:=2) (λ_=>rfl) (d.toList.map λx=>x.1) (j / 2) hl (j%2) (Nat.mod_lt _ (by omega));rw[show j / 2*2+j%2=j by omega]at h1;show((d.toList.map λx=>x.1).flatMap dZ)[j]?=_;rw[h1];have h2:(d.toList.map λx=>x.1)[j / 2]=(d[j / 2]!).1:=by rw[List.getElem_map,Array.getElem_toList,getElem!_pos d _ hi]
 rw[h2];show(dZ (d[j / 2]!).1)[j%2]?=some (dZ (d[j / 2]!).1)[j%2]!;have hm:j%2<2:=Nat.mod_lt _ (by omega);generalize (d[j / 2]!).1=y;generalize j%2=r at hm
 match r,hm with
 |0,_=>rfl
 |1,_=>rfl
theorem Gv{w:World}{B g n cap q:Nat}{l:List (Int×Int)}(h:w.ownsRow B 150 2 (.slice (some (Ad g 0)) n cap) n (cB l))(d:Array Mk)(hd:d.size=n):
 (putRowK tZ 2 (Sort.ahead w q) g 0 d).ownsRow B 150 2 (.slice (some (Ad g 0)) n cap) n (cB (d.toList.map λx=>x.1)):=by
 rcases h.2 with⟨e0,_⟩|⟨g',cap',cur,e0,hb,hg,hn,hm,hs,ht⟩
 .cases e0
 injection e0 with e1 _ e3;injection e1 with e1;injection e1 with e1;subst e1;subst e3;refine⟨by rw[dM];simp[hd],.inr ⟨g,cap,putCells id 0 (flatK tZ 2 d) cur,rfl,hb,?_,hn,hm,by simpa[putCells]using hs,?_⟩⟩
 .simp[putRowK,putRow,mapBlock,Sort.ahead,Array.getElem?_modify,hg,onCells]
 apply List.ext_getElem?;intro j;rw[List.getElem?_take,fw];by_cases hj:j<n*2
 .have hjc:j<cur.size:=by have:=Nat.mul_le_mul_right 2 hn;omega
  rw[if_pos hj,MH d j (by rw[hd];exact hj)];simp only[putCells,Array.getElem?_mapIdx,ff hjc,Option.map_some];rw[if_pos ⟨dC _,by rw[size_flatK,hd];omega⟩];rfl
 rw[if_neg hj,lh (by rw[dM];simp[hd];omega)]
theorem Kz(w:World)(g q:Nat)(d:Array Mk)(os:Array Obj):w.grownBy (grow (putRowK tZ 2 (Sort.ahead w q) g 0 d) os) (some g):=by
 refine⟨rfl,rfl,rfl,by simp[grow,putRowK,putRow,mapBlock,Sort.ahead],λk hk hn=>?_⟩;have hne:g≠k:=λe=>hn (by rw[e]);have hk2:k<(putRowK tZ 2 (Sort.ahead w q) g 0 d).heap.size:=by simpa[putRowK,putRow,mapBlock,Sort.ahead]using hk
 rw[heap_grow_old _ _ hk2];simp[putRowK,putRow,mapBlock,Sort.ahead,Array.getElem?_modify,hne]
end
theorem Ai(B g cap:Nat)(l:List (Int×Int))(W:World)(hl:∀x∈l,0≤x.2∧x.2≤1000000000000)(h0:l.length≤100)(h:W.ownsRow B 150 2 (.slice (some (Ad g 0)) l.length cap) l.length (cB l)):
 Rc 122 #[.slice (some (Ad g 0)) l.length cap,.func (.func 123) #[] #[]] W (.tuple #[]) λw'=>∃l',l'.Perm l∧l'.Pairwise (λa b=>a.2≤b.2)∧w'.ownsRow B 150 2 (.slice (some (Ad g 0)) l.length cap) l.length (cB l')∧W.grownBy w' (some g):=by
 haveI:Inhabited Mk:=⟨⟨(0,0),by decide⟩⟩
 obtain⟨d,hd⟩:∃d:Array Mk,d.toList.map (λx=>x.1)=l:=⟨(l.attach.map λx=>(⟨x.1,hl x.1 x.2⟩:Mk)).toArray,by show((l.attach.map λx=>(⟨x.1,hl x.1 x.2⟩:Mk)).map λx=>x.1)=l;rw[List.map_map];exact List.attach_map_subtype_val l⟩;have hsz:d.size=l.length:=by rw[<-hd];simp
 have hlt:g<W.heap.size:=(h.lt g rfl).2;have hH:HoldsK tZ 2 W g 0 d:=λj hj=>by rw[size_flatK]at hj;have h1:=h.cellAt j (by rw[<-hsz];exact hj);rw[eV];refine⟨?_,h.frozenAt _⟩;rw[h1,<-hd];exact MH d j hj
 have hc:=AnyQ.slices_SortFunc (P:=Tryz.prog) (ρ:=Tryz.sortM_ren) Tryz.sortM 2 Tryz.isAgg150 Tryz.sizeOf150 tZ (λ_=>rfl) (λx v hv=>by
  simp[tZ,dZ]at hv;rcases hv with rfl|rfl<;>rfl) Qz Wx 123 #[] g 0 cap d W (enters_of Tryz.func123 (by kernel_rfl) rfl) (λm os dk _ x y=>(N9 x y _).mono λe w'⟨he,hw⟩=>⟨he,0,#[.cells #[.i x.1.1,.i x.1.2] 150,.cells #[.i y.1.1,.i y.1.2] 150],by
  rw[hw,alloc_eq_grow,alloc_eq_grow,grow_grow];rfl⟩) hH hlt (by rw[hsz];omega)
 rw[hsz]at hc;refine hc.mono ?_;rintro e w' ⟨he,d',n,os,hp,hs,rfl⟩;have hd':=hp.1.trans hsz;refine⟨he,d'.toList.map λx=>x.1,?_,?_,?_,Kz W g n d' os⟩
 .have h3:=hp.2.2;rw[<-hsz]at h3;have e1:(d'.extract 0 d.size).toList=d'.toList:=by rw[<-hp.1];simp
  have e2:(d.extract 0 d.size).toList=d.toList:=by simp
  rw[e1,e2]at h3;rw[<-hd];exact h3.map _
 .rw[List.pairwise_map,List.pairwise_iff_getElem];intro i j hi hj hij;have hi':i<d'.size:=by simpa using hi
  have hj':j<d'.size:=by simpa using hj
  have:=hs i j (dC _) hij (by omega);rw[Vv,getElem!_pos d' i hi',getElem!_pos d' j hj']at this;simp only[decide_eq_false_iff_not]at this;simp only[Array.getElem_toList];omega
 have h3:=Gv (q:=n) h d' hd';exact aj h3 (λk hk=>by have hk2:k<(putRowK tZ 2 (Sort.ahead W n) g 0 d').heap.size:=(h3.lt k hk).2;exact heap_grow_old _ _ hk2)
def aK.marked(s:aK)(l:List (Int×Int))(mv:Value):aK:={s with ms:=l,mv:=mv}
theorem aC.Kw{B:Nat}{w w':World}{b:Nat}{q:Int}{s:aK}(h:aC B w b q s){l:List (Int×Int)}{mv:Value}(ho:w'.ownsRow B 150 2 mv l.length (cB l))(hg:w.grownBy w' s.mv.ownBlock):
 aC B (w'.setCell (Ad b 6) mv) b q (s.marked l mv):=by
 obtain⟨a1,a2,a3,a4,a5,a6⟩:=h.apart;have hmn:∀k,k<w.heap.size->s.mv.ownBlock≠some k->w'.heap[k]?=w.heap[k]?:=λk hk hn=>hg.block k hk (λe=>hn e.symm);have hb:w'.heap[b]?=some (s.blk q):=by rw[hmn b (h.lt b (by simp[foot])).2 (λe=>(a5 b e).1 rfl)];exact h.blk
 have hmb:∀k,mv.ownBlock=some k->k≠b:=λk hk e=>by obtain⟨_,cur,h4⟩:=av ho hk;rw[e,hb]at h4;simp[aK.blk]at h4
 refine⟨?_,?_,?_,?_,?_,?_,h.hb,h.hvb,h.hmb⟩
 .rw[dy w' b 6 _ _ _ hb];rfl
 .rw[de _ _ _ _ (by exact a1)];exact(hmn s.vb (h.lt s.vb (by simp[foot])).2 (λe=>(a5 _ e).2.1 rfl)).trans h.aL
 .refine aj h.ss (λk hk=>?_);rw[de _ _ _ _ (a4 k hk).1,hmn k (h.ss.lt k hk).2 (a4 k hk).2.2.2]
 .refine h.th.of_block ?_;rw[de _ _ _ _ (by exact a2)];exact hmn s.mb (h.lt s.mb (by simp[foot])).2 (λe=>(a5 _ e).2.2 rfl)
 .exact aj (w:=w') ho (λk hk=>de _ _ _ _ (hmb k hk))
 refine aj h.lg (λk hk=>?_);rw[de _ _ _ _ (a6 k hk).1,hmn k (h.lg.lt k hk).2 (a6 k hk).2.2.2.2]
theorem aC.Ky{B:Nat}{w w':World}{b:Nat}{q:Int}{s:aK}(h:aC B w b q s){l:List (Int×Int)}(ho:w'.ownsRow B 150 2 s.mv l.length (cB l))(hg:w.grownBy w' s.mv.ownBlock):
 aC B w' b q (s.marked l s.mv):=by
 obtain⟨a1,a2,a3,a4,a5,a6⟩:=h.apart;have hmn:∀k,k<w.heap.size->s.mv.ownBlock≠some k->w'.heap[k]?=w.heap[k]?:=λk hk hn=>hg.block k hk (λe=>hn e.symm);refine⟨?_,?_,?_,?_,ho,?_,h.hb,h.hvb,h.hmb⟩
 .exact(hmn b (h.lt b (by simp[foot])).2 (λe=>(a5 b e).1 rfl)).trans h.blk
 .exact(hmn s.vb (h.lt s.vb (by simp[foot])).2 (λe=>(a5 _ e).2.1 rfl)).trans h.aL
 .exact aj h.ss (λk hk=>hmn k (h.ss.lt k hk).2 (a4 k hk).2.2.2)
 .exact h.th.of_block (hmn s.mb (h.lt s.mb (by simp[foot])).2 (λe=>(a5 _ e).2.2 rfl))
 exact aj h.lg (λk hk=>hmn k (h.lg.lt k hk).2 (a6 k hk).2.2.2.2)
theorem yt{b:Nat}{s:aK}{l:List (Int×Int)}{mv:Value}{N:Nat}(h:∀k,mv.ownBlock=some k->s.mv.ownBlock=some k∨N≤k):∀k∈foot b (s.marked l mv),k∈foot b s∨N≤k:=by
 intro k hk;simp only[foot,aK.marked,dT,ek,fy,or_false,gd]at hk⊢;rcases hk with((h1|h1)|h1)|h1
 .exact Or.inl (Or.inl (Or.inl (Or.inl h1)))
 .exact Or.inl (Or.inl (Or.inl (Or.inr h1)))
 .exact(h k h1).imp_left (λh2=>Or.inl (Or.inr h2))
 exact Or.inl (Or.inr h1)
theorem Gt(B b:Nat)(s:aK)(g:Int)(j:Nat)(x:Sn)(w:World)(h:aC B w b 0 s)(hl:s.ss.length≤12)(hml:s.ms.length<12)(hf:fi (λy:Sn=>y.au==g) 0 s.ss=(j:Int))(hx:s.ss[j]?=some x)(hfm:fi (λy:Int×Int=>y.1==g) 0 s.ms=-1)(hms:∀y∈s.ms,0≤y.2∧y.2≤1000000000000)(hxc:0≤x.came∧x.came≤1000000000000)(qo:s.log.length≤140000000000000):
 Rc 75 #[.p b,.i g] w (.i 0) λw'=>∃l mv lv,l.Perm (s.ms++[(g,x.came)])∧l.Pairwise (λa b=>a.2≤b.2)∧aC B w' b 0 ((s.marked l mv).noted 77 (n4 g).ba lv)∧Fr (foot b s) w w'∧(∀k,mv.ownBlock=some k->s.mv.ownBlock=some k∨w.heap.size≤k)∧(∀k,lv.ownBlock=some k->s.lv.ownBlock=some k∨w.heap.size≤k):=by
 obtain⟨i0,hi,hz0,hz1,hz2⟩:=info_parts Cb;have HU:=Hd λW=>bf g W;have oF:=Hd λW l mv hW=>gD B b 1 (s.marked l mv) 77 (n4 g).ba W hW (by show 4≤1000;omega) qo;obtain⟨ba,hba⟩:=eX (n4 g).ba;rw[hba]at HU oF⊢;clear hba;have R1:=h.lock 1;obtain⟨w1,hw1⟩:=eX (w.setCell (Ad b 0) (.int .i32 1));rw[hw1]at R1;have hj:j<s.ss.length:=(df.1 hx).1;have HL:=lock_free Tryz.muLib (Ad b 0) w h.cells.1 (h.frozen 0);have F1:Fr (foot b s) w w1:=by rw[<-hw1];exact aV b s w _
 have HF:=Hj4 hw1 R1 F1 hx;have HM:=bF B b 1 s g w1 R1 (by omega);rw[hfm]at HM;have HS:=Hd λW hW=>aF B b 1 s g W hW (by omega);rw[hf]at HS;obtain⟨ao,cap,hsv⟩:=ah h.ss;have ho:=h.ss;rw[hsv]at ho;obtain⟨gg,hgg,hcap,hcells⟩:=aB ho (by omega);clear hcells;subst hgg;have HV:=Hd hsv;obtain⟨mo,mc,hmv⟩:=ah h.ms;have Sy:=Hd hmv;obtain⟨n,hn⟩:=eX s.ss.length;have hjn:(j:Int)<(n:Int):=by omega
 have HN:=Hd hn;obtain⟨m,hm⟩:=eX s.ms.length;have Ah:=Hd hm;obtain⟨cm,hcm⟩:=eX x.came;have HCM:=Hd hcm;rw[hcm]at hxc⊢;have HB:=Hj2 hms hxc;have hne:s.mv.ownBlock≠some b:=λe=>(h.apart.2.2.2.2.1 b e).1 rfl;rw[hmv,hm]at hne;have xC:=Hd hne;rw[hm]at hml;clear h R1 F1 hw1 hf hx ho hsv hcm hmv hms hxc hfm hm hne;rw[hn]at hcap hj hl;clear hn;have hmz:¬(12:Int)≤(m:Int):=by omega
 go_enter_defers Tryz.func75,Tryz.ntmps75;go_wp2_with (first
  |(go_at_call 50;refine HL.mono ?_;rintro e w' ⟨rfl,hw'⟩;rw[HF.o.1]at hw';have hw':=hw'.symm;subst hw')
  |(go_at_call 109;refine HM.mono ?_;rintro e w2 ⟨rfl,hfr⟩;have HR2:=Hj2 (HF.o.2.1.aA hfr) (HF.o.2.2.1.trans hfr (by simp));clear hfr)
  |(go_at_call 53;refine(HS.o _ HR2.o.1).mono ?_;rintro e w3 ⟨rfl,hfr⟩;have HR3:=Hj2 (HR2.o.1.aA hfr) (HR2.o.2.trans hfr (by simp));have c4:w3.cell? (Ad b 4)=some (.slice (some (Ad gg 0)) n cap):=by rw[<-HN.o,<-HV.o];exact HR3.o.1.cells.2.2.2.1
    have c6:w3.cell? (Ad b 6)=some (.slice mo m mc):=by rw[<-Ah.o,<-Sy.o];exact HR3.o.1.cells.2.2.2.2.2.1
    have d3:w3.cell? (Ad gg (j*4+3))=some (.i cm):=by
     have h1:=HR3.o.1.ss;rw[HV.o,HN.o]at h1;obtain⟨g',e',_,hc⟩:=aB h1 (by omega);have:g'=gg:=by simpa using e'.symm
     subst this;rw[hc _ (by omega)];have h2:=(iW s.ss j (by rw[HN.o];exact hj)).2.2.2;rw[h2];have h3:=HF.o.2.2.2;rw[dp (by rw[HN.o];exact hj)]at h3;simp at h3;rw[h3,HCM.o]
    have f6:=HR3.o.1.frozen 6;have Gu:Hid (w3.ownsRow B 150 2 (.slice mo m mc) m (cB s.ms)):=by have h1:=HR3.o.1.ms;rw[Sy.o,Ah.o]at h1;exact h1
    have lb:=dm _ _ c6;have lb':b<w3.heap.size:=lb;have hBw:B≤w3.heap.size:=by have:=HR3.o.1.hb;omega
    clear hfr))
 have j0:(0:Int)≤(j:Int):=Int.natCast_nonneg _;have j1:¬((n:Int)≤(j:Int)):=by omega
 refine wp_region_noPanic ?_;go_region_law
  ((refine step_append_lies _ (by rfl) _ _ _ (by rfl) B 150 i0 _ 2 16 Tryz.underlying133 hi hz0 hz1 hz2 rfl (by omega) (.slice mo m mc) m (cB s.ms) (by rfl) ((Gu.o.alloc _).drew) (Ad w3.heap.size 0) 1 1 [.i g,.i cm] (by rfl) (by rfl) (World.news_of_block (cs:=#[.i g,.i cm]) (t:=150) (fr:=(0,0)) (di w3 _)) (by simp[Value.oneCell']) (by omega) (by unfold maxLen;omega) (by omega) (by simp;omega) (w3.heap.size+1) (by simp) ?_;intro mg bX w9 aH hgrow hat oK;have f9:w9.frozen? (Ad b 6)=false:=(hgrow.frozen_far (Ad b 6) (by simp;omega) (Ne.symm xC.o)).trans (dW lb' f6);have c9:=(hgrow.cell_far (Ad b 6) (by simp;omega) (Ne.symm xC.o)).trans ((du (ei w3 _ b lb')).trans c6)))
 all_goals
  refine NoPanic.normal ?_;have Fy:Hid (aC B (w9.setCell (Ad b 6) (.slice (some (Ad mg 0)) (m+1) bX)) b 1 (s.marked (s.ms++[(g,cm)]) (.slice (some (Ad mg 0)) (m+1) bX))∧Fr (foot b s) w (w9.setCell (Ad b 6) (.slice (some (Ad mg 0)) (m+1) bX))∧(s.mv.ownBlock=some mg∨w.heap.size≤mg)):=by
   have R2:=HR3.o.1.aA (fR.alloc (.cells #[.i g,.i cm] 150)).drew;refine⟨R2.Kw (l:=s.ms++[(g,cm)]) ?_ (by rw[Sy.o,Ah.o];exact hgrow),Fr.setCell ((HR3.o.2.alloc _).drew.grown hgrow (λk hk=>Or.inl ?_)) _ (Or.inl (by simp[foot])),?_⟩
   .rw[dE,Ah.o];have e1:cB (s.ms++[(g,cm)])=cB s.ms++[.i g,.i cm]:=by simp[cB,dZ]
    rw[e1];exact aH
   .simp only[foot,dT,gd];exact Or.inl (Or.inr (by rw[Sy.o,Ah.o];exact hk))
   rcases hat with h|h
   .left;rw[Sy.o,Ah.o];exact h
   have:=HR3.o.2.size;right;omega
  obtain⟨W9,vF⟩:=eX (w9.setCell (Ad b 6) (.slice (some (Ad mg 0)) (m+1) bX));rw[vF]at Fy;rw[vF];have c6':cD W9 b 6 (.slice (some (Ad mg 0)) (m+1) bX):=Fy.o.1.cells.2.2.2.2.2.1;clear aH hgrow hat oK f9 c9 vF c4 c6 d3 f6 Gu;have Zd:Hid (∀k,(Value.slice (some (Ad mg 0)) (m+1) bX).ownBlock=some k->s.mv.ownBlock=some k∨w.heap.size≤k):=λk hk=>by
   have:mg=k:=by simpa[Value.ownBlock]using hk
   subst this;exact Fy.o.2.2
  have HT:Hid (Rc 122 #[.slice (some (Ad mg 0)) (m+1) bX,.func (.func 123) #[] #[]] W9 (.tuple #[]) λw'=>∃l',l'.Perm (s.ms++[(g,cm)])∧l'.Pairwise (λa b=>a.2≤b.2)∧w'.ownsRow B 150 2 (.slice (some (Ad mg 0)) (m+1) bX) (m+1) (cB l')∧W9.grownBy w' (some mg)):=by
   have e1:(s.ms++[(g,cm)]).length=m+1:=by rw[dE,Ah.o];rfl
   have h1:=Fy.o.1.ms;have h2:=Ai B mg bX (s.ms++[(g,cm)]) W9 (λy hy=>by
    rcases dT.1 hy with h3|h3
    .exact HB.o.1 y h3
    simp at h3;subst h3;exact HB.o.2) (by rw[e1];omega) (by rw[e1];rw[show(s.marked (s.ms++[(g,cm)]) (.slice (some (Ad mg 0)) (m+1) bX)).ms=s.ms++[(g,cm)] from rfl,e1]at h1;exact h1)
   rw[e1]at h2;exact h2
  go_wp2_with (first
   |(go_at_call 122;refine HT.o.mono ?_;rintro e w4 ⟨rfl,l',Ww,hs4,Ze,hg4⟩;have HR4:Hid (aC B w4 b 1 (s.marked l' (.slice (some (Ad mg 0)) (m+1) bX))∧Fr (foot b s) w w4∧l'.Perm (s.ms++[(g,cm)])∧l'.Pairwise (λa b=>a.2≤b.2)):=by
      have e1:l'.length=m+1:=by rw[Ww.length_eq,dE,Ah.o];rfl
      have h1:=Fy.o.1.Ky (w':=w4) (l:=l') (by rw[e1];exact Ze) hg4;refine⟨h1,Fy.o.2.1.grown hg4 (λk hk=>?_),Ww,hs4⟩;have:mg=k:=by simpa using hk
      subst this;exact Fy.o.2.2.imp_left (λh5=>by simp[foot,h5])
     clear Ww hs4 Ze hg4)
   |(go_at_call 110;refine(HU.o _).mono ?_;rintro e w5 ⟨rfl,f5⟩;have mZ:=Hj2 (HR4.o.1.aA f5) (HR4.o.2.1.trans f5 (by simp));clear f5)
   |(go_at_call 113;refine(oF.o _ l' _ mZ.o.1).mono ?_;rintro e w6 ⟨rfl,lv,r6,f6,a6⟩;have dJ:Hid (aC B w6 b 1 ((s.marked l' (.slice (some (Ad mg 0)) (m+1) bX)).noted 77 ba lv)∧Fr (foot b s) w w6∧(∀k,lv.ownBlock=some k->s.lv.ownBlock=some k∨w.heap.size≤k)):=⟨r6,mZ.o.2.trans f6 (yt Zd.o),λk hk=>(a6 k hk).imp_right (λh=>eJ mZ.o.2.size h)⟩;clear r6 f6 a6))
  refine leaves_cons (f:=51) (args:=#[.pointer (some ⟨b,0,none⟩)]) (by simp) (by simp[go_sem]) ?_;refine(eK Tryz.muLib (Ad b 0) .returning _ dJ.o.1.cells.1 (dJ.o.1.frozen 0)).mono ?_;rintro e u' w'' ⟨rfl,rfl,rfl⟩;exact⟨_,results_tmp rfl _ _ _,rfl,l',_,lv,HR4.o.2.2.1,HR4.o.2.2.2,dJ.o.1.lock 0,dJ.o.2.1.setCell _ (Or.inl (by simp[foot])),Zd.o,dJ.o.2.2⟩
end Go.Proofs.YtjceeemlilnplaaGreatDoor
