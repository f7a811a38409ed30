import Derived.Test.YtjceeemlilnplaaGreatDoorM25
import Derived.Deep.RegionHeld3
set_option maxRecDepth 100000
set_option maxHeartbeats 12800000
set_option linter.all false
namespace Go.Proofs.YtjceeemlilnplaaGreatDoor.Kp
open Go.RowKit Pl
def oz(o:List Nat):List Int:=o.map λ(i:Nat)=>(i:Int)
theorem oz_len(o:List Nat):(oz o).length=o.length:=by simp[oz]
theorem oz_tm(o:List Nat)(k:Nat)(h:k<o.length):tm (oz o) k=(o[k]:Int):=by simp[tm,oz,h]
theorem Kn.set{w:World}{ao:Option Addr}{zs:List Int}{cap g j:Nat}{u:Value}(h:Kn w ao zs cap)(hne:0<zs.length->∀b off,ao=some (Ad b off)->b≠g):Kn (w.setCell (Ad g j) u) ao zs cap:=by refine⟨h.1,λh0=>?_⟩;obtain⟨b,off,e,hc⟩:=h.2 h0;exact⟨b,off,e,λi hi=>(World.cell?_setCell_other _ _ _ _ (by intro e';simp only[Addr.mk.injEq]at e';exact hne h0 b off e e'.1.symm)).trans (hc i hi)⟩
def fut(now:Int)(zs:List Int)(o:List Nat):Nat:=(o.takeWhile λp=>decide (now<tm zs p)).length
theorem fut_le(now:Int)(zs:List Int)(o:List Nat):fut now zs o≤o.length:=(List.takeWhile_sublist _).length_le
theorem count_any(now:Int)(a1 a2:Option Addr)(zs:List Int)(o:List Nat)(c1 c2:Nat)(w:World)(h1:Kn w a1 zs c1)(h2:Kn w a2 (oz o) c2)(hz:zs.length≤17592186044416)(ho:o.length≤17592186044416)(hp:∀p∈o,p<zs.length):
 Rc 168 #[.i now,.slice a1 zs.length c1,.slice a2 o.length c2] w (.i (fut now zs o:Nat)) λw'=>w'=w:=by
 obtain⟨r,hr⟩:=eX (fut now zs o);rw[hr];have HR:Hid (0+fut now zs (o.drop 0)=r):=by show _=_;rw[Nat.zero_add];exact hr
 have HP:Hid _:=hp;clear hr hp;go_enter Tryz.func168,Tryz.ntmps168;go_wp2;go_loop [7] (λi=>∃k:Nat,k≤o.length∧i=.i k∧Hid (k+fut now zs (o.drop k)=r)) (λi=>o.length-(intOf i).toNat)
 case atStart=>exact⟨0,Nat.zero_le _,rfl,HR⟩
 obtain⟨k,hk,rfl,HK⟩:=hrel;clear HR;by_cases hlt:k<o.length
 .obtain⟨b2,off2,rfl,hc2⟩:=h2.2 (by rw[oz_len];omega);have hpk:o[k]<zs.length:=HP.o _ (List.getElem_mem hlt);obtain⟨b1,off1,rfl,hc1⟩:=h1.2 (by omega);have d2:=hc2 k (by rw[oz_len];exact hlt);rw[oz_tm o k hlt]at d2;have d1:=hc1 o[k] hpk;have H:=HK.o;rw[List.drop_eq_getElem_cons hlt]at H;have l2:=h2.1;rw[oz_len]at l2;have l1:=h1.1;obtain⟨p,hpp⟩:=eX o[k];rw[hpp]at d1 d2 hpk H;obtain⟨x,hx⟩:=eX (tm zs p);rw[hx]at d1;have hltz:(k:Int)<(o.length:Int):=by omega
  by_cases hgt:now<x
  .have e:fut now zs (p::o.drop (k+1))=fut now zs (o.drop (k+1))+1:=by simp[fut,hx,hgt]
   rw[e]at H;have HH:Hid (k+1+fut now zs (o.drop (k+1))=r):=by show _=_;rw[<-H];omega
   clear H HK hc1 hc2 h1 h2 hpp hx e;go_wp2;go_round
   case rel=>exact⟨k+1,by omega,by go_num,HH⟩
   simp[intOf];omega
  have e:fut now zs (p::o.drop (k+1))=0:=by simp[fut,hx,hgt]
  rw[e,Nat.add_zero]at H;subst H;clear HK hc1 hc2 h1 h2 hpp hx e;go_wp2;go_ret;exact⟨rfl,rfl⟩
 have H:=HK.o;rw[drop_nil o k hlt]at H;simp only[fut,List.takeWhile_nil,List.length_nil,Nat.add_zero]at H;subst H;have hltz:¬(k:Int)<(o.length:Int):=by omega
 clear HK h1 h2;go_wp2;go_ret;exact⟨rfl,rfl⟩
def bs(n:Nat)(S:List Nat):List Value:=(List.range n).map λk=>.bool (decide (k∈S))
theorem bs_len(n:Nat)(S:List Nat):(bs n S).length=n:=by simp[bs]
theorem bs_set(n p:Nat)(S:List Nat):(bs n S).set p (.bool true)=bs n (S++[p]):=by
 apply List.ext_getElem
 .simp[bs]
 intro i h1 h2;simp only[bs,List.getElem_set,List.getElem_map,List.getElem_range];by_cases e:p=i
 .subst e;simp
 rw[if_neg e];have:¬i=p:=λx=>e x.symm;simp[this]
theorem gb_trans{a b c:World}{row:Option Nat}(h:a.grownBy b row)(h':b.grownBy c row):a.grownBy c row:=
 ⟨h'.os.trans h.os,h'.tape.trans h.tape,h'.output.trans h.output,Nat.le_trans h.size h'.size,λk hk hn=>(h'.block k (Nat.lt_of_lt_of_le hk h.size) hn).trans (h.block k hk hn)⟩
theorem gb_drewN{a b:World}{row:Option Nat}(h:a.grownBy b row)(n:Nat):a.grownBy (b.drewN n) row:=⟨h.os,h.tape,h.output,h.size,h.block⟩
theorem rule_any(now:Int)(a1 a2:Option Addr)(zs:List Int)(o:List Nat)(c1 c2 g base:Nat)(c q:Int)(S:List Nat)(w:World)(h1:Kn w a1 zs c1)(h2:Kn w a2 (oz o) c2)
 (hown:w.ownsRow base 4 1 (.slice (some (Ad g 0)) zs.length zs.length) zs.length (bs zs.length S))
 (n1:0<zs.length->∀b off,a1=some (Ad b off)->b≠g)(n2:0<(oz o).length->∀b off,a2=some (Ad b off)->b≠g)
 (hz:zs.length≤17592186044416)(ho:o.length≤17592186044416)(hp:∀p∈o,p<zs.length)(oW:0≤now∧now≤1073741824)(ht:∀p∈o,0≤tm zs p∧tm zs p≤now)(hc:1≤c∧c≤20)(hq:1≤q∧q≤1000000):
 Cl 169 #[.slice (some (Ad g 0)) zs.length zs.length,.i now,.slice a1 zs.length c1,.slice a2 o.length c2,.agg #[.i c,.i q]] w λe w'=>
  e=.returned (.tuple #[])∧w'.ownsRow base 4 1 (.slice (some (Ad g 0)) zs.length zs.length) zs.length (bs zs.length (S++rm (st now zs q) c o (-1)))∧w.grownBy w' (some g):=by
 obtain⟨R,hR⟩:=eX (S++rm (st now zs q) c o (-1));rw[hR];have HR:=Hd hR;have HP:Hid _:=hp;have HT:Hid _:=ht;have hgl:=(hown.lt g rfl).2;have N1:Hid _:=n1;have N2:Hid _:=n2;have H1:=Hd h1;have H2:=Hd h2;clear hR hp ht n1 n2 h1 h2;obtain⟨hc0,hc20⟩:=hc;obtain⟨hq0,Ga⟩:=hq;obtain⟨hn0,hn30⟩:=oW;go_enter Tryz.func169,Tryz.ntmps169;go_wp2;go_loopw [10,16] (λsn i wr=>∃(k:Nat)(seen:Int)(S':List Nat),k≤o.length∧i=.i k∧sn=.i seen∧-1≤seen∧seen≤1073741824∧wr.ownsRow base 4 1 (.slice (some (Ad g 0)) zs.length zs.length) zs.length (bs zs.length S')∧
  Hid (Kn wr a1 zs c1)∧Hid (Kn wr a2 (oz o) c2)∧wr.cell? (Ad w.heap.size 0)=some (.i c)∧wr.cell? (Ad w.heap.size 1)=some (.i q)∧w.grownBy wr (some g)∧Hid (S'++rm (st now zs q) c (o.drop k) seen=R)) (λ_ i _=>o.length-(intOf i).toNat)
 case atStart=>exact⟨0,-1,S,Nat.zero_le _,rfl,rfl,by omega,by omega,hown.alloc _,H1.o.below ((Below.refl _ _).alloc (Nat.le_refl _) _),H2.o.below ((Below.refl _ _).alloc (Nat.le_refl _) _),by simp,by simp,World.grownBy_alloc _ _ _,HR⟩
 obtain⟨k,seen,S',hk,rfl,rfl,hs1,hs2,hown',R1,R2,b0,b1,hgr,HK⟩:=hrel;clear HR hown H1 H2;by_cases hlt:k<o.length
 .obtain⟨bb2,off2,hb2,hc2⟩:=R2.o.2 (by rw[oz_len];omega);have hpk:o[k]<zs.length:=HP.o _ (List.getElem_mem hlt);have htk:=HT.o _ (List.getElem_mem hlt);obtain⟨bb1,off1,hb1,hc1⟩:=R1.o.2 (by omega);subst hb1;subst hb2;have e2:=hc2 k (by rw[oz_len];exact hlt);rw[oz_tm o k hlt]at e2;have e1:=hc1 o[k] hpk;have H:=HK.o;rw[List.drop_eq_getElem_cons hlt]at H;have l2:=R2.o.1;rw[oz_len]at l2;have l1:=R1.o.1;obtain⟨p,hpp⟩:=eX o[k];rw[hpp]at e1 e2 hpk H htk;obtain⟨x,hx⟩:=eX (tm zs p);rw[hx]at e1 htk;obtain⟨ht0,ht1⟩:=htk;unfold rm at H;have hst:st now zs q p=(now-x) / q:=by rw[st,hx]
  rw[hst]at H;have hd0:0≤(now-x) / q:=Int.ediv_nonneg (by omega) (by omega);have hd1:(now-x) / q≤now-x:=Int.ediv_le_self _ (by omega);have e1':∀m,cE (wr.drewN m) bb1 (off1+p) x:=λm=>e1;have b0':∀m,cE (wr.drewN m) w.heap.size 0 c:=λm=>b0;have b1':∀m,cE (wr.drewN m) w.heap.size 1 q:=λm=>b1;have hfr:wr.frozen? (Ad g p)=false:=hown'.frozenAt _;obtain⟨u,hu⟩:∃u,wr.cell? (Ad g p)=some u:=by rw[hown'.cellAt p (by omega)];exact⟨_,List.getElem?_eq_getElem (by rw[bs_len];exact hpk)⟩
  clear hc1 hc2 hpp hx hst HK;by_cases hst:c≤(now-x) / q
  .rw[if_pos hst,List.append_nil]at H;subst H;clear R1 R2;go_wp2;go_quiet (fail)
   go_wp2;exact bodyPost_ret (v:=.tuple #[]) (by simp[results,go_sem]) rfl ⟨rfl,hown',gb_drewN hgr _⟩
  rw[if_neg hst]at H;by_cases hse:(now-x) / q=seen
  .rw[if_pos hse]at H;have HH:Hid _:=H;have hsb:((now-x) / q != seen)=false:=by simpa using hse
   have G1:Hid (∀m,Kn (wr.drewN m) (some (Ad bb1 off1)) zs c1∧Kn (wr.drewN m) (some (Ad bb2 off2)) (oz o) c2∧w.grownBy (wr.drewN m) (some g)):=λm=>⟨R1.o,R2.o,gb_drewN hgr m⟩;clear H R1 R2 hse;go_wp2;go_quiet (fail)
   go_wp2;go_roundw
   case rel=>exact⟨k+1,seen,S',by omega,by go_num,rfl,hs1,hs2,hown',(G1.o nq).1,(G1.o nq).2.1,b0,b1,(G1.o nq).2.2,HH⟩
   simp[intOf];omega
  rw[if_neg hse]at H;have HH:Hid (S'++[p]++rm (st now zs q) c (List.drop (k+1) o) ((now-x) / q)=R):=by show _=_;rw[<-H];simp
  have hsb:((now-x) / q != seen)=true:=by simpa using hse
  have hstd:=hown'.stored p (.bool true);rw[bs_set]at hstd;have G1:Hid (∀m,Kn ((wr.drewN m).setCell (Ad g p) (.bool true)) (some (Ad bb1 off1)) zs c1∧Kn ((wr.drewN m).setCell (Ad g p) (.bool true)) (some (Ad bb2 off2)) (oz o) c2∧w.grownBy ((wr.drewN m).setCell (Ad g p) (.bool true)) (some g)∧
   ((wr.drewN m).setCell (Ad g p) (.bool true)).ownsRow base 4 1 (.slice (some (Ad g 0)) zs.length zs.length) zs.length (bs zs.length (S'++[p]))∧
   ((wr.drewN m).setCell (Ad g p) (.bool true)).cell? (Ad w.heap.size 0)=some (.i c)∧((wr.drewN m).setCell (Ad g p) (.bool true)).cell? (Ad w.heap.size 1)=some (.i q)):=λm=>
   ⟨Kn.set (w:=wr.drewN m) R1.o N1.o,Kn.set (w:=wr.drewN m) R2.o N2.o,gb_trans hgr (gb_drewN hstd.2 m),hstd.1,
    (World.cell?_setCell_other _ _ _ _ (by intro e';simp only[Addr.mk.injEq]at e';omega)).trans b0,(World.cell?_setCell_other _ _ _ _ (by intro e';simp only[Addr.mk.injEq]at e';omega)).trans b1⟩
  clear H R1 R2 hse hstd N1 N2 hown' hgr;go_wp2;go_quiet (fail)
  go_wp2;go_roundw
  case rel=>exact⟨k+1,(now-x) / q,S'++[p],by omega,by go_num,rfl,by omega,by omega,(G1.o nq).2.2.2.1,(G1.o nq).1,(G1.o nq).2.1,(G1.o nq).2.2.2.2.1,(G1.o nq).2.2.2.2.2,(G1.o nq).2.2.1,HH⟩
  simp[intOf];omega
 have H:=HK.o;rw[drop_nil o k hlt]at H;simp only[rm,List.append_nil]at H;subst H;clear HK R1 R2;go_wp2;go_end0;exact⟨rfl,hown',hgr⟩
end Go.Proofs.YtjceeemlilnplaaGreatDoor.Kp
namespace Go.Proofs.YtjceeemlilnplaaGreatDoor.Kp
open Go.RowKit Pl
def Vo(now:Int)(zs:List Int)(last:Int)(rs:List (Int×Int)):Bool:=JL now&&zs.all JL&&decide (0≤last)&&oO rs
def kr(now:Int)(zs:List Int)(last:Int)(rs:List (Int×Int)):List Value:=(List.range zs.length).map λk=>.bool (keepR now zs last rs k)
theorem bs_kr(now:Int)(zs:List Int)(last:Int)(rs:List (Int×Int))(h0:0≤last)(hr:oO rs=true):bs zs.length (prS now zs last.toNat rs (Wi zs))=kr now zs last rs:=by
 unfold bs kr;apply List.map_congr_left;intro k hk;have hs:∀r∈rs,1≤r.2:=by intro r hm;simp only[oO,Bool.and_eq_true,List.all_eq_true]at hr;have:=hr.2 r hm;simp[Vp]at this;omega
 have:=keep_eq (now:=now) (ordN_ord zs) (List.mem_range.1 hk) last h0 rs hs;cases hkk:keepR now zs last rs k with
 |true=>rw[hkk]at this;simp[this.2 rfl]
 |false=>rw[hkk]at this;simp only[Bool.false_eq_true,iff_false]at this;simp[this]
theorem row_one(w:World)(now:Int):Kn (w.alloc (.cells #[.i now] 3)) (some (Ad w.heap.size 0)) [now] 1:=
 ⟨Nat.le_refl _,λ_=>⟨_,_,rfl,λi hi=>by
  have:i=0:=by simpa using hi
  subst this;simp[tm]⟩⟩
theorem info4:(Tryz.prog.info? 4).map (λi=>(i.zero,i.size,i.bytes))=some (some (.bool false),1,1):=by kernel_rfl
end Go.Proofs.YtjceeemlilnplaaGreatDoor.Kp
namespace Go.Proofs.YtjceeemlilnplaaGreatDoor.Kp
open Go.RowKit Pl
theorem encO_row{w:World}{base g n:Nat}{o:List Nat}(hl:o.length=n)(h:w.ownsRow base 3 1 (.slice (some (Ad g 0)) n n) n (RF o)):Kn w (some (Ad g 0)) (oz o) n:=by refine⟨by rw[oz_len,hl];exact Nat.le_refl _,λ_=>⟨g,0,rfl,λi hi=>?_⟩⟩;rw[oz_len]at hi;rw[Nat.zero_add,h.cellAt i (by omega),oz_tm o i hi];simp[RF,hi]
theorem bs_nil(n:Nat):(madeCells (Value.bool false).cells (n*1)).toList=bs n []:=by
 apply List.ext_getElem
 .simp[madeCells,bs]
 intro i h1 h2;simp[madeCells,bs,Value.cells,Nat.mod_one]
theorem ordN_len(zs:List Int):(Wi zs).length=zs.length:=by simp[Wi,srt_len]
theorem ordN_lt(zs:List Int):∀p∈Wi zs,p<zs.length:=λ_ hp=>List.mem_range.1 ((ordN_ord zs).perm.mem_iff.1 hp)
def KI(w:World)(g1 G n:Nat)(o S:List Nat)(wr:World):Prop:=
 Below w.heap.size w wr∧wr.ownsRow G 4 1 (.slice (some (Ad G 0)) n n) n (bs n S)∧wr.ownsRow w.heap.size 3 1 (.slice (some (Ad g1 0)) n n) n (RF o)∧w.heap.size≤g1∧g1<G
theorem KI.mark{w:World}{g1 G n:Nat}{o S:List Nat}{wr:World}(h:KI w g1 G n o S wr)(p:Nat):KI w g1 G n o (S++[p]) (wr.setCell (Ad G p) (.bool true)):=by obtain⟨h1,h2,h3,h4,h5⟩:=h;refine⟨h1.setCell (by show w.heap.size≤G;omega) _,?_,ownsRow_setCell_other h3 (by simp[Value.ownBlock];omega) _,h4,h5⟩;have:=(h2.stored p (.bool true)).1;rwa[bs_set]at this
theorem KI.alloc{w:World}{g1 G n:Nat}{o S:List Nat}{wr:World}(h:KI w g1 G n o S wr)(x:Obj):KI w g1 G n o S (wr.alloc x):=
 ⟨h.1.alloc h.1.size _,h.2.1.alloc _,h.2.2.1.alloc _,h.2.2.2⟩
theorem KI.drewN{w:World}{g1 G n:Nat}{o S:List Nat}{wr:World}(h:KI w g1 G n o S wr)(m:Nat):KI w g1 G n o S (wr.drewN m):=
 ⟨bdn h.1 m,h.2.1,h.2.2.1,h.2.2.2⟩
theorem KI.rule{w:World}{g1 G n:Nat}{o S S':List Nat}{wr w':World}(h:KI w g1 G n o S wr)(h':w'.ownsRow G 4 1 (.slice (some (Ad G 0)) n n) n (bs n S'))(hg:wr.grownBy w' (some G)):KI w g1 G n o S' w':=by obtain⟨h1,h2,h3,h4,h5⟩:=h;exact⟨h1.grown hg h1.size (λk e=>by cases e;omega),h',h3.kept hg (Or.inr (by simp[Value.ownBlock];omega)),h4,h5⟩
theorem KI.place{w:World}{g1 G n:Nat}{o S:List Nat}{wr:World}(h:KI w g1 G n o S wr)(k:Nat)(hk:k<o.length):wr.cell? (Ad g1 k)=some (.i (o[k]:Int)):=by
 have hl:o.length=n:=by have:=h.2.2.1.1;simpa[RF]using this
 rw[h.2.2.1.cellAt k (by omega)];simp[RF,hk]
theorem KI.seat{w:World}{g1 G n:Nat}{o S:List Nat}{wr:World}(h:KI w g1 G n o S wr)(p:Nat)(hp:p<n):(∃u,wr.cell? (Ad G p)=some u)∧wr.frozen? (Ad G p)=false:=
 ⟨by rw[h.2.1.cellAt p (by omega)];exact⟨_,List.getElem?_eq_getElem (by rw[bs_len];exact hp)⟩,h.2.1.frozenAt _⟩
theorem KI.order{w:World}{g1 G n:Nat}{o S:List Nat}{wr:World}(h:KI w g1 G n o S wr):Kn wr (some (Ad g1 0)) (oz o) n:=
 encO_row (by have:=h.2.2.1.1;simpa[RF]using this) h.2.2.1
theorem take_next(o:List Nat)(k:Nat)(h:k<o.length):o.take k++[o[k]]=o.take (k+1):=(List.take_succ_eq_append_getElem h).symm
theorem take_fut(now:Int)(zs:List Int):∀o:List Nat,o.take (fut now zs o)=o.takeWhile (λp=>decide (now<tm zs p))∧o.drop (fut now zs o)=o.dropWhile (λp=>decide (now<tm zs p))
 |[]=>by simp[fut]
 |p::o=>by
  have ih:=take_fut now zs o;unfold fut at ih⊢;cases h:decide (now<tm zs p)with
  |true=>simp[h,ih]
  |false=>simp[h]
theorem take_last(o:List Nat)(L m:Nat)(h:L=min m o.length):o.take L=o.take m:=by
 by_cases hm:m≤o.length
 .rw[h,Nat.min_eq_left hm]
 rw[h,Nat.min_eq_right (by omega),List.take_of_length_le (Nat.le_refl _),List.take_of_length_le (by omega)]
theorem fut_old{now:Int}{zs:List Int}{o:List Nat}(h:Ord zs o)(p:Nat)(hp:p∈o.drop (fut now zs o)):tm zs p≤now:=by
 rw[(take_fut now zs o).2]at hp;have hpw:o.Pairwise (λa b=>(λp=>decide (now<tm zs p)) b=true->(λp=>decide (now<tm zs p)) a=true):=
  h.desc.imp λ{a b}hab hb=>by have:=nw_ge zs a b hab;simp at hb⊢;omega
 rw[dw_filter hpw]at hp;have:=(List.mem_filter.1 hp).2;simpa using this
theorem okT_tm{zs:List Int}(h:zs.all JL=true)(p:Nat)(hp:p<zs.length):0≤tm zs p∧tm zs p≤1073741824:=by
 have:=List.all_eq_true.1 h zs[p] (List.getElem_mem hp);simp only[JL,Bool.and_eq_true,decide_eq_true_eq]at this;have e:tm zs p=zs[p]:=by simp[tm,hp]
 rw[e];exact this
theorem KI.ruled{now:Int}{a1:Option Addr}{zs:List Int}{o:List Nat}{c1 g1 G:Nat}{S:List Nat}{w W:World}{c q:Int}(h1:Kn w a1 zs c1)(hK:KI w g1 G zs.length o S W)(hO:Ord zs o)(hz:zs.length≤17592186044416)(hol:o.length=zs.length)
 (hn:JL now=true)(hT:zs.all JL=true)(hr:Vp (c,q)=true)(F:Nat)(hF:fut now zs o=F):
 Cl 169 #[.slice (some (Ad G 0)) zs.length zs.length,.i now,.slice a1 zs.length c1,.slice (if zs.length=F then some (Ad g1 0)else some (Ad g1 F)) (zs.length-F) (zs.length-F),.agg #[.i c,.i q]] W λe w'=>
  e=.returned (.tuple #[])∧KI w g1 G zs.length o (S++rm (st now zs q) c (o.drop F) (-1)) w'∧W.grownBy w' (some G):=by
 have hlen:(o.drop F).length=zs.length-F:=by simp[hol]
 have hperm:∀p∈o,p<zs.length:=λp hp=>List.mem_range.1 (hO.perm.mem_iff.1 hp);simp only[JL,Bool.and_eq_true,decide_eq_true_eq]at hn;simp only[Vp,Bool.and_eq_true,decide_eq_true_eq]at hr;have hA:=h1.below hK.1;have hR:Kn W (if zs.length=F then some (Ad g1 0)else some (Ad g1 F)) (oz (o.drop F)) (zs.length-F):=by refine⟨by rw[oz_len,hlen];exact Nat.le_refl _,λh0=>?_⟩;rw[oz_len,hlen]at h0;refine⟨g1,F,by rw[if_neg (by omega)],λi hi=>?_⟩;rw[oz_len,hlen]at hi;rw[hK.place (F+i) (by omega),oz_tm _ i (by rw[hlen];exact hi),List.getElem_drop]
 have hc:=rule_any now a1 _ zs (o.drop F) c1 (zs.length-F) G G c q S W hA hR hK.2.1
  (λh0 b off e=>by obtain⟨b',off',e',hc⟩:=h1.2 h0;rw[e']at e;simp at e;have:=World.block_lt_of_cell? _ _ (hc 0 h0);simp at this;have:=hK.2.2.2.1;have:=hK.2.2.2.2;omega)
  (λh0 b off e=>by rw[oz_len,hlen]at h0;rw[if_neg (by omega)]at e;simp at e;have:=hK.2.2.2.2;omega)
  hz (by rw[hlen];omega) (λp hp=>hperm p (List.mem_of_mem_drop hp)) hn
  (λp hp=>⟨(okT_tm hT p (hperm p (List.mem_of_mem_drop hp))).1,by rw[<-hF]at hp;exact fut_old hO p hp⟩) (by omega) (by omega)
 rw[hlen]at hc;exact hc.mono λe w'⟨he,ho',hg⟩=>⟨he,hK.rule ho' hg,hg⟩
theorem Vx(now last:Int)(a1 a3:Option Addr)(zs:List Int)(rs:List (Int×Int))(c1 c3:Nat)(w:World)(h1:Kn w a1 zs c1)(h3:Wh w a3 rs c3)(hz:zs.length≤17592186044416)(hr:rs.length≤17592186044416)(hl:last≤9223372036854775807)(hok:Vo now zs last rs=true):
 Cl 135 #[.i now,.slice a1 zs.length c1,.i last,.slice a3 rs.length c3] w λe w'=>∃g,e=.returned (.tuple #[.slice (some (Ad g 0)) zs.length zs.length,.i 0])∧w'.ownsRow w.heap.size 4 1 (.slice (some (Ad g 0)) zs.length zs.length) zs.length (kr now zs last rs)∧Below w.heap.size w w':=by
 obtain⟨i0,hi,hz0,hz1,hz2⟩:=info_parts info4;simp only[Vo,Bool.and_eq_true,decide_eq_true_eq]at hok;obtain⟨⟨⟨x1,x2⟩,x3⟩,x4⟩:=hok;rw[<-bs_kr now zs last rs x3 x4];have hb0:Below w.heap.size w (w.alloc (.cells #[.i now] 3)):=(Below.refl _ _).alloc (Nat.le_refl _) _;have HT1:=tmay_any _ [now] 1 _ (row_one w now) (by simp);have HT2:=tmay_any a1 zs c1 _ (h1.below hb0) hz;have HR3:=rmay_any a3 rs c3 _ (h3.below hb0) hr;have hsz:(w.alloc (.cells #[.i now] 3)).heap.size=w.heap.size+1:=by simp
 rw[show[now].all JL=true by simp[x1]]at HT1;rw[x2]at HT2;rw[x4,hsz]at HR3;obtain⟨o,ho⟩:=eX (Wi zs);have hol:o.length=zs.length:=by rw[<-ho];exact ordN_len zs
 have HOP:Hid (∀p∈o,p<zs.length):=by rw[<-ho];exact ordN_lt zs
 have HORD:Hid (Ord zs o):=by rw[<-ho];exact ordN_ord zs
 have zM:∀w,Kn w a1 zs c1->_:=λw hw=>qY a1 zs c1 w hw hz;rw[ho]at zM⊢;have HNW':Hid _:=zM;have J6:=Hd h1;have V7:=Hd h3;clear ho zM h1 h3;obtain⟨L,hmin,hLn,hLt⟩:∃L:Nat,min last (zs.length:Int)=(L:Int)∧L≤zs.length∧Hid (L=min last.toNat zs.length):=⟨min last.toNat zs.length,by omega,by omega,rfl⟩;go_enter Tryz.func135,Tryz.ntmps135;go_wp2_with fail;refine HT1.mono ?_;rintro e w1 ⟨rfl,hw⟩;rw[hw];clear hw;go_wp2_with fail;refine HT2.mono ?_;rintro e w2 ⟨rfl,hw⟩;rw[hw];clear hw;go_wp2_with fail;refine HR3.mono ?_;rintro e w3 ⟨rfl,hb3⟩;have hB3:Below w.heap.size w w3:=hb0.trans (hb3.mono (by omega));clear HT1 HT2 HR3 hb0 hb3;go_wp2_with fail;refine(HNW'.o _ (J6.o.below hB3)).mono ?_;rintro e w4 ⟨g1,rfl,Ze,hb4⟩;have hg1:=Ze.lt g1 rfl;have hB4:Below w.heap.size w w4:=hB3.trans (hb4.mono hB3.size);clear HNW' hb4;go_wp2_with (at_make;refine wpList_make_full _ rfl _ _ 228 rfl w4.heap.size 4 i0 _ 1 Tryz.underlying228 hi hz0 hz1 _ _ _ _ zs.length rfl rfl rfl rfl (by rw[hz2];omega) (by unfold maxLen;omega) (Nat.le_refl _) ?_;intro w5 ho5 hg5);rw[bs_nil]at ho5;have HK0:=Hj5 (hB4.grown hg5 hB4.size (λk e=>by cases e)) ho5 (dD (Ze.kept hg5 (Or.inr (by simp[Value.ownBlock]))) hB3.size) (Nat.le_trans hB3.size hg1.1) hg1.2;obtain⟨G,hG⟩:=eX w4.heap.size;rw[hG]at HK0⊢;clear hG ho5 hg5 Ze hg1 hB4 hmin;go_loopw [49] (λi wr=>∃k:Nat,k≤L∧i=.i k∧Hid (KI w g1 G zs.length o (o.take k) wr)) (λi _=>L-(intOf i).toNat)
 case atStart=>exact⟨0,Nat.zero_le _,rfl,HK0⟩
 obtain⟨k,hk,rfl,HK⟩:=hrel;clear HK0;by_cases hlt:k<L
 .have hko:k<o.length:=by omega
  have d1:=HK.o.place k hko;have hpk:=HOP.o _ (List.getElem_mem hko);have H2:Hid (KI w g1 G zs.length o (o.take (k+1)) (wr.setCell (Ad G o[k]) (.bool true))):=by rw[<-take_next o k hko];exact HK.o.mark _
  obtain⟨⟨u,d2⟩,d3⟩:=HK.o.seat o[k] hpk;obtain⟨p,hp⟩:=eX o[k];rw[hp]at d1 d2 d3 hpk H2;clear HK hp;go_wp2;go_roundw
  case rel=>exact⟨k+1,by omega,by go_num,H2⟩
  simp[intOf];omega
 have hkL:k=L:=by omega
 have fP:Hid (KI w g1 G zs.length o (o.take L) wr):=by rw[<-hkL];exact HK
 obtain⟨F,hF⟩:=eX (fut now zs o);have hFn:F≤zs.length:=by rw[<-hF,<-hol];exact fut_le now zs o
 have HC:=count_any now a1 (some (Ad g1 0)) zs o c1 zs.length wr (J6.o.below fP.o.1) fP.o.order hz (by omega) HOP.o;rw[hF,hol]at HC;have HF:=Hd hF;clear hF hkL HK;go_wp2_with (go_at_call 168;refine HC.mono ?_;rintro e w6 ⟨rfl,hw⟩;rw[hw];clear hw);clear HC;go_loopw [65] (λi wr=>∃k:Nat,k≤F∧i=.i k∧Hid (KI w g1 G zs.length o (o.take L++o.take k) wr)) (λi _=>F-(intOf i).toNat)
 case atStart=>exact⟨0,Nat.zero_le _,rfl,by rw[List.take_zero,List.append_nil];exact fP⟩
 rename_i w6 _;obtain⟨k,hk,rfl,HK⟩:=hrel;clear fP;by_cases hlt:k<F
 .have hko:k<o.length:=by omega
  have d1:=HK.o.place k hko;have hpk:=HOP.o _ (List.getElem_mem hko);have H2:Hid (KI w g1 G zs.length o (o.take L++o.take (k+1)) (wr.setCell (Ad G o[k]) (.bool true))):=by rw[<-take_next o k hko,<-List.append_assoc];exact HK.o.mark _
  obtain⟨⟨u,d2⟩,d3⟩:=HK.o.seat o[k] hpk;obtain⟨p,hp⟩:=eX o[k];rw[hp]at d1 d2 d3 hpk H2;clear HK hp;go_wp2;go_roundw
  case rel=>exact⟨k+1,by omega,by go_num,H2⟩
  simp[intOf];omega
 have hkF:k=F:=by omega
 have Nn:Hid (KI w g1 G zs.length o (o.take L++o.take F) wr):=by rw[<-hkF];exact HK
 clear hkF HK;go_wp2;go_loopw [75] (λi wr=>∃k:Nat,k≤rs.length∧i=.i k∧Hid (KI w g1 G zs.length o (o.take L++o.take F++(rs.take k).flatMap λr=>rm (st now zs r.2) r.1 (o.drop F) (-1)) wr)) (λi _=>rs.length-(intOf i).toNat)
 case atStart=>exact⟨0,Nat.zero_le _,rfl,by rw[List.take_zero,List.flatMap_nil,List.append_nil];exact Nn⟩
 obtain⟨k,hk,rfl,HK⟩:=hrel;clear Nn;by_cases hlt:k<rs.length
 .obtain⟨b3,off3,hb3,hc3⟩:=(V7.o.below HK.o.1).2 (by omega);subst hb3;obtain⟨d1,d2⟩:=hc3 k hlt;have l3:=V7.o.1;obtain⟨x,hx⟩:=eX rs[k];rw[hx]at d1 d2;obtain⟨c,q⟩:=x;simp only at d1 d2;have HX:=Hd hx;clear hc3 hx;have hr':Vp (c,q)=true:=by
   have:(c,q)∈rs:=by rw[<-HX.o];exact List.getElem_mem hlt
   simp only[oO,Bool.and_eq_true]at x4;exact List.all_eq_true.1 x4.2 _ this
  have HRU:Hid (∀W,KI w g1 G zs.length o (o.take L++o.take F++(rs.take k).flatMap λr=>rm (st now zs r.2) r.1 (o.drop F) (-1)) W->Cl 169 #[.slice (some (Ad G 0)) zs.length zs.length,.i now,.slice a1 zs.length c1,.slice (if zs.length=F then some (Ad g1 0)else some (Ad g1 F)) (zs.length-F) (zs.length-F),.agg #[.i c,.i q]] W λe w'=>
   e=.returned (.tuple #[])∧KI w g1 G zs.length o (o.take L++o.take F++(rs.take (k+1)).flatMap λr=>rm (st now zs r.2) r.1 (o.drop F) (-1)) w'∧W.grownBy w' (some G)):=λW hW=>by
   have:=hW.ruled (c:=c) (q:=q) (now:=now) J6.o HORD.o hz hol x1 x2 hr' F HF.o;rw[List.take_succ_eq_append_getElem hlt,List.flatMap_append,HX.o];simpa using this
  have hGl:G<wr.heap.size:=(HK.o.2.1.lt G rfl).2;clear HX hr';by_cases hFe:zs.length=F
  .rw[if_pos hFe]at HRU;subst hFe;simp only[Nat.sub_self]at HRU;go_wp2;go_region_held3 (λw'=>w'.cell? (Ad wr.heap.size 0)=some (.i c)∧w'.cell? (Ad wr.heap.size 1)=some (.i q)) (go_keep)
    (first|(go_at_call 169;refine(HRU.o _ ((HK.o.alloc _).drewN 1)).mono ?_;rintro e w7 ⟨rfl,hk7,hg7⟩;have z0:w7.cell? (Ad wr.heap.size 0)=some (.i c):=hg7.cell (by simp) (by simp;omega);have z1:w7.cell? (Ad wr.heap.size 1)=some (.i q):=hg7.cell (by simp) (by simp;omega);have HK7:Hid _:=hk7;clear hk7 hg7))
   go_wp2;go_roundw
   case rel=>exact⟨k+1,by omega,by go_num,HK7⟩
   simp[intOf];omega
  rw[if_neg hFe]at HRU;go_wp2;go_region_held3 (λw'=>w'.cell? (Ad wr.heap.size 0)=some (.i c)∧w'.cell? (Ad wr.heap.size 1)=some (.i q)) (go_keep)
   (first|(go_at_call 169;refine(HRU.o _ ((HK.o.alloc _).drewN 1)).mono ?_;rintro e w7 ⟨rfl,hk7,hg7⟩;have z0:w7.cell? (Ad wr.heap.size 0)=some (.i c):=hg7.cell (by simp) (by simp;omega);have z1:w7.cell? (Ad wr.heap.size 1)=some (.i q):=hg7.cell (by simp) (by simp;omega);have HK7:Hid _:=hk7;clear hk7 hg7))
  go_wp2;go_roundw
  case rel=>exact⟨k+1,by omega,by go_num,HK7⟩
  simp[intOf];omega
 have hkr:k=rs.length:=by omega
 have HE:Hid (∃g,Ending.returned (.tuple #[.slice (some (Ad G 0)) zs.length zs.length,.i 0])=.returned (.tuple #[.slice (some (Ad g 0)) zs.length zs.length,.i 0])∧wr.ownsRow w.heap.size 4 1 (.slice (some (Ad g 0)) zs.length zs.length) zs.length (bs zs.length (prS now zs last.toNat rs o))∧Below w.heap.size w wr):=by refine⟨G,rfl,?_,HK.o.1⟩;have h:=HK.o.2.1;rw[hkr,List.take_length,<-HF.o,(take_fut now zs o).1,(take_fut now zs o).2,take_last o L last.toNat (by rw[hol];exact hLt.o)]at h;exact dD h (by have:=HK.o.2.2.2.1;have:=HK.o.2.2.2.2;omega)
 clear HK hkr;go_wp2;go_ret2;exact HE.o
end Go.Proofs.YtjceeemlilnplaaGreatDoor.Kp
