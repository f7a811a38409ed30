import Derived.Test.YtjceeemlilnplaaGreatDoorM01
import Derived.Shelf.SlSortCmp.NoneTotal
import Derived.Test.YtjceeemlilnplaaGreatDoorProg
import Derived.Shelf.SlGeneric
import Derived.Test.YtjceeemlilnplaaGreatDoorM23
import Derived.Deep.RegionHeld3
import Derived.Test.YtjceeemlilnplaaGreatDoorM24
import Derived.Lib.OwnBridge
import Derived.Lib.AppendIntMem
set_option maxRecDepth 100000
set_option maxHeartbeats 12800000
set_option linter.all false
namespace Go.Proofs
open Go.Shelf
def Tryz.sortL_ren:Go.Shelf.Ren:=⟨fun|6=>200|15=>161|14=>215|28=>197|29=>198|20=>223|21=>224|22=>225|23=>226|24=>227|25=>228|26=>229|27=>230|46=>233|47=>211|48=>212|49=>234|50=>235|57=>236|n=>n,fun|22=>30|24=>3|25=>62|3=>3|39=>243|0=>0|53=>125|55=>280|4=>4|46=>273|45=>272|50=>157|5=>5|9=>9|66=>288|70=>292|76=>295|77=>169|n=>n,fun|n=>n⟩
theorem Tryz.sortL:Go.Proofs.SlLaysF.n6 Tryz.prog Tryz.sortL_ren:={
 mixed:=by kernel_rfl
 f6:=⟨Tryz.f200.name,by decide,Tryz.func200.trans (congrArg some (by kernel_rfl))⟩
 f14:=⟨Tryz.f215.name,by decide,Tryz.func215.trans (congrArg some (by kernel_rfl))⟩
 f15:=Tryz.func161.trans (congrArg some (by kernel_rfl))
 f20:=⟨Tryz.f223.name,by decide,Tryz.func223.trans (congrArg some (by kernel_rfl))⟩
 f21:=⟨Tryz.f224.name,by decide,Tryz.func224.trans (congrArg some (by kernel_rfl))⟩
 f22:=⟨Tryz.f225.name,by decide,Tryz.func225.trans (congrArg some (by kernel_rfl))⟩
 f23:=⟨Tryz.f226.name,by decide,Tryz.func226.trans (congrArg some (by kernel_rfl))⟩
 f24:=⟨Tryz.f227.name,by decide,Tryz.func227.trans (congrArg some (by kernel_rfl))⟩
 f25:=⟨Tryz.f228.name,by decide,Tryz.func228.trans (congrArg some (by kernel_rfl))⟩
 f26:=⟨Tryz.f229.name,by decide,Tryz.func229.trans (congrArg some (by kernel_rfl))⟩
 f27:=⟨Tryz.f230.name,by decide,Tryz.func230.trans (congrArg some (by kernel_rfl))⟩
 f28:=Tryz.func197.trans (congrArg some (by kernel_rfl))
 f29:=Tryz.func198.trans (congrArg some (by kernel_rfl))
 f46:=⟨Tryz.f233.name,by decide,Tryz.func233.trans (congrArg some (by kernel_rfl))⟩
 f47:=Tryz.func211.trans (congrArg some (by kernel_rfl))
 f48:=Tryz.func212.trans (congrArg some (by kernel_rfl))
 f49:=⟨Tryz.f234.name,by decide,Tryz.func234.trans (congrArg some (by kernel_rfl))⟩
 f50:=⟨Tryz.f235.name,by decide,Tryz.func235.trans (congrArg some (by kernel_rfl))⟩
 f57:=⟨Tryz.f236.name,by decide,Tryz.func236.trans (congrArg some (by kernel_rfl))⟩
 t0:=Tryz.underlying0
 a0:=Tryz.isAgg0
 z0:=Tryz.sizeOf0
 v0:=Tryz.zeroValue0
 t3:=Tryz.underlying3
 a3:=Tryz.isAgg3
 z3:=Tryz.sizeOf3
 v3:=Tryz.zeroValue3
 t4:=Tryz.underlying4
 a4:=Tryz.isAgg4
 z4:=Tryz.sizeOf4
 v4:=Tryz.zeroValue4
 t5:=Tryz.underlying5
 a5:=Tryz.isAgg5
 z5:=Tryz.sizeOf5
 v5:=Tryz.zeroValue5
 t9:=Tryz.underlying9
 a9:=Tryz.isAgg9
 z9:=Tryz.sizeOf9
 v9:=Tryz.zeroValue9
 t22:=Tryz.underlying30
 a22:=Tryz.isAgg30
 z22:=Tryz.sizeOf30
 v22:=Tryz.zeroValue30
 a24:=Tryz.isAgg3
 z24:=Tryz.sizeOf3
 t25:=Tryz.underlying62
 a25:=Tryz.isAgg62
 z25:=Tryz.sizeOf62
 v25:=Tryz.zeroValue62
 t39:=Tryz.underlying243
 a39:=Tryz.isAgg243
 z39:=Tryz.sizeOf243
 v39:=Tryz.zeroValue243
 t45:=Tryz.underlying272
 a45:=Tryz.isAgg272
 z45:=Tryz.sizeOf272
 v45:=Tryz.zeroValue272
 t46:=Tryz.underlying273
 a46:=Tryz.isAgg273
 z46:=Tryz.sizeOf273
 v46:=Tryz.zeroValue273
 t50:=Tryz.underlying157
 a50:=Tryz.isAgg157
 z50:=Tryz.sizeOf157
 v50:=Tryz.zeroValue157
 t53:=Tryz.underlying125
 a53:=Tryz.isAgg125
 z53:=Tryz.sizeOf125
 v53:=Tryz.zeroValue125
 t55:=Tryz.underlying280
 a55:=Tryz.isAgg280
 z55:=Tryz.sizeOf280
 v55:=Tryz.zeroValue280
 t66:=Tryz.underlying288
 a66:=Tryz.isAgg288
 z66:=Tryz.sizeOf288
 v66:=Tryz.zeroValue288
 t70:=Tryz.underlying292
 a70:=Tryz.isAgg292
 z70:=Tryz.sizeOf292
 v70:=Tryz.zeroValue292
 t76:=Tryz.underlying295
 a76:=Tryz.isAgg295
 z76:=Tryz.sizeOf295
 v76:=Tryz.zeroValue295
 t77:=Tryz.underlying169
 a77:=Tryz.isAgg169
 z77:=Tryz.sizeOf169
 v77:=Tryz.zeroValue169}
end Go.Proofs
namespace Go.Proofs.YtjceeemlilnplaaGreatDoor.Kp
open Go.RowKit Pl Go.Sort
theorem clo_any(bx b off n cap x y:Nat)(tx ty:Int)(w:World)(hbox:w.cell? (Ad bx 0)=some (.slice (some (Ad b off)) n cap))(hx:x<n)(hy:y<n)(_hn:n≤cap)
 (cx:w.cell? (Ad b (off+x))=some (.i tx))(cy:w.cell? (Ad b (off+y))=some (.i ty)):
 Rc 201 #[.i x,.i y,.p bx] w (.i (orI (RA ty tx) (RA y x))) λw'=>∃q,w'=(w.alloc (.cells #[.i (RA ty tx),.i (RA y x)] 3)).drewN q:=by
 have lb:=World.block_lt_of_cell? _ _ hbox;have lx:=World.block_lt_of_cell? _ _ cx;have H1:∀w,_:=λw=>compare_any ty tx w;have H2:∀w,_:=λw=>compare_any y x w;obtain⟨p,hp⟩:=eX (RA ty tx);obtain⟨q,hq⟩:=eX (RA y x);rw[hp]at H1;rw[hq]at H2;rw[hp,hq];clear hp hq;have J6:Hid _:=H1;have J7:Hid _:=H2;clear H1 H2;go_enter Tryz.func201,Tryz.ntmps201;go_wp2;go_region_held3 (λw'=>w'.cell? (Ad bx 0)=some (.slice (some (Ad b off)) n cap)∧w'.cell? (Ad b (off+x))=some (.i tx)∧w'.cell? (Ad b (off+y))=some (.i ty)) (go_keep)
  (first|(go_at_call_of 203 (Value.i ty);refine(J6.o _).mono ?_;rintro e w' ⟨rfl,rfl⟩)|(go_at_call_of 203 (Value.i (y:Int));refine(J7.o _).mono ?_;rintro e w' ⟨rfl,rfl⟩)|(go_at_call 202;refine(or_any p q _ _ (by simp) (by simp)).mono ?_;rintro e w' ⟨rfl,rfl⟩))
 all_goals go_wp2
 all_goals go_ret
 all_goals exact⟨rfl,1,rfl⟩
end Go.Proofs.YtjceeemlilnplaaGreatDoor.Kp
namespace Go.Proofs.YtjceeemlilnplaaGreatDoor.Kp
open Go.RowKit Pl Go.Sort Go.Lib Go.Shelf
theorem info3:(Tryz.prog.info? 3).map (λi=>(i.zero,i.size,i.bytes))=some (some (.i 0),1,8):=by kernel_rfl
def aah(n:Nat)(i:Fin n):Value:=.i (i.val:Int)
def cfN(zs:List Int)(x y:Fin zs.length):Int:=orI (RA (tm zs y) (tm zs x)) (RA (y.val:Int) (x.val:Int))
theorem ltN(zs:List Int)(x y:Fin zs.length):ltOf (cfN zs) x y=nw zs x y:=by
 unfold ltOf cfN orI RA nw;by_cases h1:tm zs y<tm zs x
 .simp[h1]
 by_cases h2:tm zs x<tm zs y
 .have h3:¬tm zs x=tm zs y:=by omega
  simp[h1,h2,h3]
 have h3:tm zs x=tm zs y:=by omega
 by_cases h4:y.val<x.val
 .have h5:(y.val:Int)<x.val:=by omega
  simp[h3,h4,h5]
 have h5:¬(y.val:Int)<x.val:=by omega
 by_cases h6:(x.val:Int)<y.val
 .simp[h3,h4,h5,h6]
 simp[h3,h4,h5,h6]
theorem swoN(zs:List Int):SWO (ltOf (cfN zs)) where
 irrefl x:=by rw[ltN];exact nw_irr zs x
 trans x y z h1 h2:=by rw[ltN]at*;exact nw_trans zs x y z h1 h2
 ntrans x y z h1 h2:=by rw[ltN]at*;simp only[nw,Bool.or_eq_false_iff,Bool.and_eq_false_iff,decide_eq_false_iff_not]at h1 h2⊢;omega
theorem totN(zs:List Int)(x y:Fin zs.length)(h1:ltOf (cfN zs) x y=false)(h2:ltOf (cfN zs) y x=false):x=y:=by
 rw[ltN]at*;apply Fin.ext;by_cases h:x.val=y.val
 .exact h
 rcases nw_total zs x y h with e|e
 .rw[h1]at e;cases e
 rw[h2]at e;cases e
def srt(zs:List Int):List (Fin zs.length):=(List.finRange zs.length).mergeSort λx y=>!ltOf (cfN zs) y x
def Wi(zs:List Int):List Nat:=(srt zs).map (·.val)
theorem fin_range(n:Nat):(List.finRange n).map (·.val)=List.range n:=by
 apply List.ext_getElem
 .simp
 intro i h1 h2;simp
theorem srt_len(zs:List Int):(srt zs).length=zs.length:=by simp[srt]
theorem ordN_ord(zs:List Int):Ord zs (Wi zs):=by
 have hp:(srt zs).Perm (List.finRange zs.length):=List.mergeSort_perm _ _;have hperm:(Wi zs).Perm (List.range zs.length):=by rw[<-fin_range];exact hp.map _
 refine⟨hperm,?_⟩;have hs:(srt zs).Pairwise λx y=>(!ltOf (cfN zs) y x)=true:=by
  apply List.pairwise_mergeSort
  .intro a b c h1 h2;simp only[Bool.not_eq_true']at h1 h2⊢;exact(swoN zs).ntrans c b a h2 h1
  intro a b;cases h:ltOf (cfN zs) b a with
  |false=>simp
  |true=>
   have:ltOf (cfN zs) a b=false:=by rw[ltN]at h⊢;exact nw_asymm zs b a h
   simp[this]
 have hnd:(srt zs).Pairwise (·≠·):=by have:(Wi zs).Nodup:=hperm.nodup_iff.2 List.nodup_range;exact(List.pairwise_map.1 this).imp λ{a b}h e=>h (by rw[e])
 rw[Wi,List.pairwise_map];refine(hs.and hnd).imp λ{a b}h=>?_;have h1:ltOf (cfN zs) b a=false:=by simpa using h.1
 rw[ltN]at h1;have:a.val≠b.val:=λe=>h.2 (Fin.ext e);rcases nw_total zs a b this with x|x
 .exact x
 rw[h1]at x;cases x
def Y7(n k:Nat):List Value:=(List.range n).map λi=>if i<k then .i (i:Int)else .i 0
theorem Vq(n k:Nat):(Y7 n k).length=n:=by simp[Y7]
theorem Vr(n k:Nat):(Y7 n k).set k (.i (k:Int))=Y7 n (k+1):=by
 apply List.ext_getElem
 .simp[Y7]
 intro i h1 h2;simp only[Y7,List.getElem_set,List.getElem_map,List.getElem_range];by_cases e:k=i
 .subst e;simp
 rw[if_neg e];by_cases h:i<k
 .rw[if_pos h,if_pos (by omega)]
 rw[if_neg h,if_neg (by omega)]
theorem RI(n:Nat):(madeCells (Value.i 0).cells (n*1)).toList=Y7 n 0:=by
 apply List.ext_getElem
 .simp[madeCells,Y7]
 intro i h1 h2;simp[madeCells,Y7,Value.cells,Nat.mod_one]
theorem ini_full(n:Nat):Y7 n n=(List.finRange n).map (aah n):=by
 apply List.ext_getElem
 .simp[Y7]
 intro i h1 h2;have:i<n:=by simpa[Y7]using h1
 simp[Y7,aah,this]
def RF(o:List Nat):List Value:=o.map λ(i:Nat)=>.i (i:Int)
theorem encO_srt(zs:List Int):(srt zs).map (aah zs.length)=RF (Wi zs):=by simp[RF,Wi,aah,Function.comp_def]
theorem lays(zs:List Int)[Inhabited (Fin zs.length)](ao:Option Addr)(cap bx g:Nat)(W:World)(hW:Kn W ao zs cap)(hbx:W.cell? (Ad bx 0)=some (.slice ao zs.length cap))(hg:bx≠g)(hne:∀b off,ao=some (Ad b off)->b≠g):
 CmpLays1 Tryz.prog 201 #[.p bx] (aah zs.length) (cfN zs) g 0 zs.length W:=by
 intro m os dk _ x y;have hn:0<zs.length:=Nat.lt_of_le_of_lt (Nat.zero_le _) x.2;obtain⟨b,off,rfl,hc⟩:=hW.2 hn;have old:∀a:Addr,a.block≠g->∀v,W.cell? a=some v->(sortWorld (aah zs.length) W g 0 m dk os).cell? a=some v:=λa ha v hv=>by unfold sortWorld;have hl:=World.block_lt_of_cell? _ _ hv;rw[cell?_grow _ _ _ (by rw[size_putRow];exact hl),cell?_putRow_other _ _ _ _ _ _ (Or.inl ha)];exact hv
 have hcl:=clo_any bx b off zs.length cap x.val y.val (tm zs x) (tm zs y) (sortWorld (aah zs.length) W g 0 m dk os)
  (old _ hg _ hbx) x.2 y.2 hW.1 (old _ (hne b off rfl) _ (hc x.val x.2)) (old _ (hne b off rfl) _ (hc y.val y.2))
 refine hcl.mono λe w'⟨he,q,hq⟩=>⟨he,q,#[.cells #[.i (RA (tm zs y) (tm zs x)),.i (RA (y.val:Int) (x.val:Int))] 3],?_⟩;rw[hq,alloc_eq_grow];rfl
theorem dD{w:World}{base base':Nat}{e:TypeId}{size:Nat}{v:Value}{n:Nat}{xs:List Value}(h:w.ownsRow base e size v n xs)(hb:base'≤base):w.ownsRow base' e size v n xs:=by
 refine⟨h.1,?_⟩;rcases h.2 with hn|⟨g,cap,cur,hv,hg,r⟩
 .exact Or.inl hn
 exact Or.inr ⟨g,cap,cur,hv,by omega,r⟩
theorem below_grow{B:Nat}{a w:World}(h:Below B a w)(hB:B≤w.heap.size)(os:Array Obj):Below B a (grow w os):=
 h.trans ⟨rfl,rfl,rfl,by rw[Go.Sort.size_grow];omega,λk hk=>heap_grow_old w os (by omega)⟩
theorem RL(zs:List Int)(ao:Option Addr)(cap bx g base:Nat)(W:World)(hW:Kn W ao zs cap)(hbx:W.cell? (Ad bx 0)=some (.slice ao zs.length cap))(hg:bx≠g)(hne:0<zs.length->∀b off,ao=some (Ad b off)->b≠g)
 (hn:zs.length≤17592186044416)(hown:W.ownsRow base 3 1 (.slice (some (Ad g 0)) zs.length zs.length) zs.length (Y7 zs.length zs.length))(hbase:base≤W.heap.size):
 Rc 200 #[.slice (some (Ad g 0)) zs.length zs.length,.func (.func 201) #[] #[.p bx]] W (.tuple #[]) λw'=>w'.ownsRow base 3 1 (.slice (some (Ad g 0)) zs.length zs.length) zs.length (RF (Wi zs))∧Below base W w':=by
 by_cases h0:zs.length=0
 .have hz:zs=[]:=List.eq_nil_of_length_eq_zero h0;subst hz;have hc:=AnyF.slices_SortFunc_none (P:=Tryz.prog) (ρ:=Tryz.sortL_ren) {Tryz.sortL with} (some (Ad g 0)) 0 (.func (.func 201) #[] #[.p bx]) W;refine hc.mono λe w'⟨he,hw⟩=>⟨he,?_,?_⟩
  .rw[hw,show RF (Wi [])=Y7 0 0 by simp[RF,Wi,srt,Y7]];exact hown
  rw[hw];exact Below.refl _ _
 .haveI:Inhabited (Fin zs.length):=⟨⟨0,by omega⟩⟩
  rw[ini_full]at hown;obtain⟨g',cap',hv,hbg,hlt,_,_,_,hH⟩:=holds_of_ownsRow hown (by simp);simp only[Value.slice.injEq,Option.some.injEq,Addr.mk.injEq,and_true,true_and]at hv;obtain⟨rfl,rfl⟩:=hv;have hsz:(List.finRange zs.length).toArray.size=zs.length:=by simp
  have hc:=Any.slices_SortFunc_total (P:=Tryz.prog) (ρ:=Tryz.sortL_ren) Tryz.sortL (aah zs.length) (λ_=>rfl) (cfN zs) (swoN zs) 201 #[.p bx] g 0 zs.length (List.finRange zs.length).toArray W
   (enters_of Tryz.func201 (by kernel_rfl) rfl) (by rw[hsz];exact lays zs ao cap bx g W hW hbx hg (hne (by omega))) hH hlt (by rw[hsz];omega) (totN zs)
  rw[hsz]at hc;refine hc.mono λe w'⟨he,n,os,hw⟩=>⟨he,?_,?_⟩
  .rw[hw];have h1:=ownsRow_putRow (enc:=aah zs.length) (q:=n) (k:=zs.length) (ys:=srt zs) hown (srt_len zs) (Nat.le_refl _);rw[List.take_of_length_le (by rw[srt_len];exact Nat.le_refl _),encO_srt]at h1;exact ownsRow_grow h1 0 os
  rw[hw];exact below_grow (below_putRow (Below.refl _ _) hbg) (by rw[size_putRow];exact hbase) os
theorem qY(ao:Option Addr)(zs:List Int)(cap:Nat)(w:World)(h:Kn w ao zs cap)(hn:zs.length≤17592186044416):
 Cl 167 #[.slice ao zs.length cap] w λe w'=>∃g,e=.returned (.slice (some (Ad g 0)) zs.length zs.length)∧w'.ownsRow w.heap.size 3 1 (.slice (some (Ad g 0)) zs.length zs.length) zs.length (RF (Wi zs))∧Below w.heap.size w w':=by
 obtain⟨i0,hi,hz0,hz1,hz2⟩:=info_parts info3;have hbx0:(w.alloc (.cells #[.slice ao zs.length cap] 30)).cell? (Ad w.heap.size 0)=some (.slice ao zs.length cap):=by simp
 go_enter Tryz.func167,Tryz.ntmps167;go_wp2_with (at_make;refine wpList_make_full _ rfl _ _ 30 rfl (w.heap.size+1) 3 i0 _ 1 Tryz.underlying30 hi hz0 hz1 _ _ _ _ zs.length rfl rfl rfl rfl (by rw[hz2];omega) (by unfold maxLen;omega) (by simp) ?_;intro w1 hown1 hgrow1);have RH:Below (w.heap.size+1) (w.alloc (.cells #[.slice ao zs.length cap] 30)) w1:=(Below.refl _ _).grown hgrow1 (by simp) (λk e=>by cases e);rw[RI,show(w.alloc (.cells #[.slice ao zs.length cap] 30)).heap.size=w.heap.size+1 from by simp]at hown1;clear hgrow1;go_loopw [10] (λi wr=>∃k:Nat,k≤zs.length∧i=.i k∧wr.ownsRow (w.heap.size+1) 3 1 (.slice (some (Ad (w.heap.size+1) 0)) zs.length zs.length) zs.length (Y7 zs.length k)∧Below (w.heap.size+1) (w.alloc (.cells #[.slice ao zs.length cap] 30)) wr) (λi _=>zs.length-(intOf i).toNat)
 case atStart=>exact⟨0,Nat.zero_le _,rfl,hown1,RH⟩
 obtain⟨k,hk,rfl,hown,hbl⟩:=hrel;clear hown1 RH;by_cases hlt:k<zs.length
 .have d1:∃u,wr.cell? (Ad (w.heap.size+1) k)=some u:=by rw[hown.cellAt k (by omega)];exact⟨_,List.getElem?_eq_getElem (by rw[Vq];exact hlt)⟩
  obtain⟨u,d1⟩:=d1;have f1:wr.frozen? (Ad (w.heap.size+1) k)=false:=hown.frozenAt _;have s1:=hown.stored k (.i (k:Int));rw[Vr]at s1;have hb2:=hbl.setCell (p:=(Ad (w.heap.size+1) k)) (by exact Nat.le_refl _) (.i (k:Int));have hE:=s1.1;clear hown s1 hbl h;go_wp2;go_roundw
  case rel=>exact⟨k+1,by omega,by go_num,hE,hb2⟩
  simp[intOf];omega
 have hke:k=zs.length:=by omega
 have hown2:wr.ownsRow (w.heap.size+1) 3 1 (.slice (some (Ad (w.heap.size+1) 0)) zs.length zs.length) zs.length (Y7 zs.length zs.length):=by rw[hke]at hown;exact hown
 have hB:=((Below.refl _ _).alloc (Nat.le_refl _) _).trans (hbl.mono (by omega));have hsz:w.heap.size+1≤wr.heap.size:=by have:=hbl.size;simp at this;omega
 have HS:=RL zs ao cap w.heap.size (w.heap.size+1) (w.heap.size+1) wr (h.below hB) ((hbl.cell (p:=(Ad w.heap.size 0)) (by show w.heap.size<w.heap.size+1;omega)).trans hbx0) (by omega)
  (λh0 b off e=>by intro eb;obtain⟨b',off',e',hc⟩:=h.2 h0;rw[e']at e;simp at e;have:=World.block_lt_of_cell? _ _ (hc 0 h0);simp at this;omega) hn hown2 hsz
 clear hown hown2 hke h;go_wp2_with (go_at_call 200;refine HS.mono ?_;rintro e w2 ⟨rfl,ho2,hb2⟩);go_ret;exact⟨_,rfl,dD ho2 (by omega),hB.trans (hb2.mono (by omega))⟩
end Go.Proofs.YtjceeemlilnplaaGreatDoor.Kp
