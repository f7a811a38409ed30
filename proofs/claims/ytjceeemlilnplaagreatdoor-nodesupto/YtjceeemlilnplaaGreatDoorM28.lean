import Derived.Test.YtjceeemlilnplaaGreatDoorM23
import Derived.Test.YtjceeemlilnplaaGreatDoorM26
set_option maxRecDepth 100000
set_option maxHeartbeats 12800000
set_option linter.all false
namespace Go.Proofs.YtjceeemlilnplaaGreatDoor.Kp
open Go.RowKit Pl
theorem newer_any(ao:Option Addr)(zs:List Int)(cap i k:Nat)(w:World)(h:Kn w ao zs cap)(hi:i<zs.length)(hk:k<zs.length)(hn:zs.length≤17592186044416):
 Rc 170 #[.slice ao zs.length cap,.i i,.i k] w (.bool (nw zs i k)) λw'=>∃q,w'=w.drewN q:=by
 obtain⟨b,off,rfl,hc⟩:=h.2 (by omega);have d1:∀m,cE (w.drewN m) b (off+i) (tm zs i):=λm=>hc i hi;have d2:∀m,cE (w.drewN m) b (off+k) (tm zs k):=λm=>hc k hk;obtain⟨x,hx⟩:=eX (tm zs i);obtain⟨y,hy⟩:=eX (tm zs k);have hnw:nw zs i k=(decide (y<x)||(decide (x=y)&&decide (k<i))):=by rw[nw,hx,hy]
 rw[hnw];rw[hx]at d1;rw[hy]at d2;clear hc h hx hy hnw;by_cases h1:y<x
 .rw[show(decide (y<x)||(decide (x=y)&&decide (k<i)))=true by simp[h1]];have t1:decide (y<x)=true:=by simpa using h1
  go_enter Tryz.func170,Tryz.ntmps170;go_wp2;go_quiet (fail)
  go_wp2;go_ret;exact⟨rfl,nq,rfl⟩
 have t1:decide (y<x)=false:=by simpa using h1
 by_cases h2:x=y
 .subst h2;rw[show(decide (x<x)||(decide (x=x)&&decide (k<i)))=decide (k<i) by simp];have t2:(x==x)=true:=by simp
  go_enter Tryz.func170,Tryz.ntmps170;go_wp2;go_quiet (fail)
  go_wp2;go_ret;exact⟨nM (by simp),nq,rfl⟩
 rw[show(decide (y<x)||(decide (x=y)&&decide (k<i)))=false by simp[h1,h2]];have t2:(x==y)=false:=by simpa using h2
 go_enter Tryz.func170,Tryz.ntmps170;go_wp2;go_quiet (fail)
 go_wp2;go_ret;exact⟨rfl,nq,rfl⟩
end Go.Proofs.YtjceeemlilnplaaGreatDoor.Kp
namespace Go.Proofs.YtjceeemlilnplaaGreatDoor.Kp
open Go.RowKit Pl
theorem range_drop(n j:Nat)(h:j<n):(List.range n).drop j=j::(List.range n).drop (j+1):=by rw[List.drop_eq_getElem_cons (by simpa using h)];simp
def fre(now:Int)(zs:List Int)(k:Nat)(q:Int)(i:Nat):Bool:=!(nw zs i k&&decide (tm zs i≤now)&&decide (st now zs q i=st now zs q k))
theorem refkept_any(now:Int)(a1:Option Addr)(zs:List Int)(c1 k:Nat)(c q:Int)(w:World)(h1:Kn w a1 zs c1)(hz:zs.length≤17592186044416)(hk:k<zs.length)(oW:JL now=true)(hT:zs.all JL=true)(hkn:tm zs k≤now)(hq:1≤q∧q≤1000000):
 Rc 171 #[.i now,.slice a1 zs.length c1,.i k,.agg #[.i c,.i q]] w (.bool (RN now zs k (c,q))) λw'=>Below w.heap.size w w':=by
 obtain⟨hq0,Ga⟩:=hq;simp only[JL,Bool.and_eq_true,decide_eq_true_eq]at oW;obtain⟨hn0,hn30⟩:=oW;have htk:=okT_tm hT k hk;obtain⟨b,off,rfl,hc⟩:=h1.2 (by omega);have l1:=h1.1;have hcW:∀m i,i<zs.length->((w.alloc (.cells #[.i c,.i q] 172)).drewN m).cell? (Ad b (off+i))=some (.i (tm zs i)):=λm i hi=>by have hl:=World.block_lt_of_cell? _ _ (hc i hi);exact(World.cell?_alloc_old _ _ _ (Nat.ne_of_lt hl)).trans (hc i hi)
 have HC:Hid _:=hcW;have HB:Hid (∀m,Below w.heap.size w ((w.alloc (.cells #[.i c,.i q] 172)).drewN m)):=λm=>bdn ((Below.refl _ _).alloc (Nat.le_refl _) _) m;have HNEW:Hid (∀m i,i<zs.length->Rc 170 #[.slice (some (Ad b off)) zs.length c1,.i i,.i k] ((w.alloc (.cells #[.i c,.i q] 172)).drewN m) (.bool (nw zs i k)) λw'=>∃q',w'=((w.alloc (.cells #[.i c,.i q] 172)).drewN m).drewN q'):=λm i hi=>
  newer_any _ zs c1 i k _ (h1.below (HB.o m)) hi hk hz
 have d0:∀m,cE ((w.alloc (.cells #[.i c,.i q] 172)).drewN m) b (off+k) (tm zs k):=λm=>hcW m k hk;have d0':cE (w.alloc (.cells #[.i c,.i q] 172)) b (off+k) (tm zs k):=hcW 0 k hk;obtain⟨R,hR⟩:=eX (RN now zs k (c,q));rw[hR];have hR':(decide ((now-tm zs k) / q<c)&&(List.range zs.length).all (fre now zs k q))=R:=by rw[<-hR];rfl
 have HT:=Hd hT;obtain⟨y,hy⟩:=eX (tm zs k);have HY:=Hd hy;rw[hy]at d0 d0' hR' hkn htk;obtain⟨hy0,hy30⟩:=htk;clear hcW hR hc h1 hT hy;by_cases hst:c≤(now-y) / q
 .rw[show decide ((now-y) / q<c)=false by simp;exact hst,Bool.false_and]at hR';subst hR';go_enter Tryz.func171,Tryz.ntmps171;go_wp2;go_quiet (fail)
  go_wp2;go_ret;exact⟨rfl,HB.o _⟩
 rw[show decide ((now-y) / q<c)=true by simp;omega,Bool.true_and]at hR';have HR:=Hd hR';clear hR';go_enter Tryz.func171,Tryz.ntmps171;go_wp2;go_quiet (fail)
 go_wp2;go_loopw [10] (λi wr=>∃(j m:Nat),j≤zs.length∧i=.i j∧wr=(w.alloc (.cells #[.i c,.i q] 172)).drewN m∧Hid (((List.range zs.length).drop j).all (fre now zs k q)=R)) (λi _=>zs.length-(intOf i).toNat)
 case atStart=>exact⟨0,nq,Nat.zero_le _,rfl,rfl,HR⟩
 obtain⟨j,m,hj,rfl,rfl,HK⟩:=hrel;clear HR;by_cases hlt:j<zs.length
 .have H:=HK.o;rw[range_drop _ _ hlt,List.all_cons]at H;have HN:=HNEW.o m j hlt;have htj:=okT_tm HT.o j hlt;have e1:∀m',cE ((w.alloc (.cells #[.i c,.i q] 172)).drewN m') b (off+j) (tm zs j):=λm'=>HC.o m' j hlt;have b1:∀m',cE ((w.alloc (.cells #[.i c,.i q] 172)).drewN m') w.heap.size 1 q:=λm'=>by show(w.alloc _).cell? _=_;simp
  have hfj:fre now zs k q j=!(nw zs j k&&decide (tm zs j≤now)&&decide ((now-tm zs j) / q=(now-y) / q)):=by unfold fre;rw[show st now zs q k=(now-y) / q by rw[st,HY.o]];rfl
  rw[hfj]at H;clear hfj;obtain⟨x,hx⟩:=eX (tm zs j);rw[hx]at htj e1 H;obtain⟨hx0,hx30⟩:=htj;clear hx HK;cases hnw:nw zs j k with
  |false=>
   rw[hnw]at HN H;simp only[Bool.false_and,Bool.not_false,Bool.true_and]at H;have HH:Hid _:=H;clear H hnw;go_wp2_with (go_at_call 170;refine HN.mono ?_;rintro e w' ⟨rfl,q',hw⟩;rw[hw];clear hw);go_quiet (fail)
   go_wp2;go_roundw
   case rel=>exact⟨j+1,_,by omega,by go_num,rfl,HH⟩
   simp[intOf];omega
  |true=>
   rw[hnw]at HN H;simp only[Bool.true_and]at H;clear hnw;by_cases hxn:x≤now
   .have t1:decide (x≤now)=true:=by simpa using hxn
    rw[t1,Bool.true_and]at H;by_cases hse:(now-x) / q=(now-y) / q
    .have t2:((now-x) / q==(now-y) / q)=true:=by simpa using hse
     rw[show decide ((now-x) / q=(now-y) / q)=true by simpa using hse]at H;simp only[Bool.not_true,Bool.false_and]at H;subst H;clear hse;go_wp2_with (go_at_call 170;refine HN.mono ?_;rintro e w' ⟨rfl,q',hw⟩;rw[hw];clear hw);go_quiet (fail)
     go_wp2;go_ret;exact⟨rfl,bdn (HB.o _) _⟩
    have t2:((now-x) / q==(now-y) / q)=false:=by simpa using hse
    rw[show decide ((now-x) / q=(now-y) / q)=false by simpa using hse]at H;simp only[Bool.not_false,Bool.true_and]at H;have HH:Hid _:=H;clear hse H;go_wp2_with (go_at_call 170;refine HN.mono ?_;rintro e w' ⟨rfl,q',hw⟩;rw[hw];clear hw);go_quiet (fail)
    go_wp2;go_roundw
    case rel=>exact⟨j+1,_,by omega,by go_num,rfl,HH⟩
    simp[intOf];omega
   have t1:decide (x≤now)=false:=by simpa using hxn
   rw[t1,Bool.false_and]at H;simp only[Bool.not_false,Bool.true_and]at H;have HH:Hid _:=H;clear H;go_wp2_with (go_at_call 170;refine HN.mono ?_;rintro e w' ⟨rfl,q',hw⟩;rw[hw];clear hw);go_quiet (fail)
   go_wp2;go_roundw
   case rel=>exact⟨j+1,_,by omega,by go_num,rfl,HH⟩
   simp[intOf];omega
 have H:=HK.o;rw[drop_nil _ j (by simpa using hlt)]at H;simp only[List.all_nil]at H;subst H;clear HK;go_wp2;go_ret;exact⟨rfl,HB.o _⟩
end Go.Proofs.YtjceeemlilnplaaGreatDoor.Kp
namespace Go.Proofs.YtjceeemlilnplaaGreatDoor.Kp
open Go.RowKit Pl
theorem own_below{w w':World}{base:Nat}{e:TypeId}{size:Nat}{v:Value}{n:Nat}{xs:List Value}(h:w.ownsRow base e size v n xs)(hb:Below w.heap.size w w'):w'.ownsRow base e size v n xs:=
 h.kept (row:=none) ⟨hb.os,hb.tape,hb.output,hb.size,λk hk _=>hb.block k hk⟩ (by cases hv:v.ownBlock<;>simp)
def cnt(zs:List Int)(k j:Nat):Nat:=((List.range j).filter λi=>nw zs i k).length
theorem cnt_next(zs:List Int)(k j:Nat):cnt zs k (j+1)=cnt zs k j+if nw zs j k=true then 1 else 0:=by unfold cnt;rw[List.range_succ,List.filter_append,List.length_append,List.filter_cons];split<;>simp
theorem cnt_le(zs:List Int)(k j:Nat):cnt zs k j≤j:=by have:=List.length_filter_le (λi=>nw zs i k) (List.range j);simpa[cnt]using this
def krk(now:Int)(zs:List Int)(last:Int)(rs:List (Int×Int))(k:Nat):List Value:=(List.range k).map λk=>.bool (keepR now zs last rs k)
theorem krk_next(now:Int)(zs:List Int)(last:Int)(rs:List (Int×Int))(k:Nat):krk now zs last rs (k+1)=krk now zs last rs k++[.bool (keepR now zs last rs k)]:=by simp[krk,List.range_succ]
def b0(now:Int)(last:Int)(m:Nat):Bool:=decide (0≤now)&&decide (now≤1073741824)&&decide (0≤last)&&decide (m≤4)
theorem okA_b0(now:Int)(zs:List Int)(last:Int)(rs:List (Int×Int)):Vo now zs last rs=(b0 now last rs.length&&zs.all JL&&rs.all Vp):=by unfold Vo b0 oO JL;cases decide (0≤now)<;>cases decide (now≤1073741824)<;>cases decide (0≤last)<;>cases decide (rs.length≤4)<;>simp
theorem cells_one(w:World)(a:Value)(T:TypeId):∀j u,[a][j]?=some u->(w.alloc (.cells #[a] T)).cell? (((Ad w.heap.size 0):Addr).add j)=some u:=by
 intro j u hj
 match j,hj with
 |0,hj=>simp at hj;subst hj;simp[Addr.add]
theorem bool_one(b:Bool):∀u∈[Value.bool b],u.oneCell'=true:=by intro u hu;simp at hu;subst hu;rfl
end Go.Proofs.YtjceeemlilnplaaGreatDoor.Kp
namespace Go.Proofs.YtjceeemlilnplaaGreatDoor.Kp
open Go.RowKit Pl
theorem Ma(now last:Int)(a1 a3:Option Addr)(zs:List Int)(rs:List (Int×Int))(c1 c3:Nat)(w:World)(h1:Kn w a1 zs c1)(h3:Wh w a3 rs c3)(hz:zs.length≤17592186044416)(hb:b0 now last rs.length=true):
 Cl 139 #[.i now,.slice a1 zs.length c1,.i last,.slice a3 rs.length c3] w λe w'=>
  (Vo now zs last rs=false∧e=.returned (.tuple #[.slice none 0 0,.i 1])∧Below w.heap.size w w')∨
  (Vo now zs last rs=true∧∃v,e=.returned (.tuple #[v,.i 0])∧w'.ownsRow w.heap.size 4 1 v zs.length (kr now zs last rs)∧Below w.heap.size w w'):=by
 obtain⟨i0,hi,hz0,hz1,hz2⟩:=info_parts info4;obtain⟨B,hB⟩:=eX (Vo now zs last rs);rw[hB];have Q6:=Hd hB;rw[okA_b0,hb]at hB;have H1:=Hd h1;have H3:=Hd h3;have HB:=Hd hB;simp only[b0,Bool.and_eq_true,decide_eq_true_eq]at hb;obtain⟨⟨⟨k1,k2⟩,k3⟩,k4⟩:=hb;have k4':(rs.length:Int)≤4:=by omega
 clear hB h1 h3;go_enter Tryz.func139,Tryz.ntmps139;go_wp2;go_loop [10,11] (λok i=>∃(j:Nat)(b:Bool),j≤zs.length∧i=.i j∧ok=.bool b∧Hid (((b&&(zs.drop j).all JL)&&rs.all Vp)=B)) (λ_ i=>zs.length-(intOf i).toNat)
 case atStart=>exact⟨0,true,Nat.zero_le _,rfl,by simp;try omega,HB⟩
 obtain⟨j,b,hj,rfl,rfl,HJ⟩:=hrel;clear HB;by_cases hlt:j<zs.length
 .have H:=HJ.o;rw[drop_tm zs j hlt,List.all_cons]at H;clear HJ;cases b with
  |false=>
   have HH:Hid (((false&&(zs.drop (j+1)).all JL)&&rs.all Vp)=B):=by show _=_;rw[<-H];simp
   clear H;go_wp2;go_round
   case rel=>exact⟨j+1,false,by omega,by go_num,rfl,HH⟩
   simp[intOf];omega
  |true=>
   obtain⟨bb,off,hb',hc⟩:=H1.o.2 (by omega);subst hb';have d1:=hc j hlt;have l1:=H1.o.1;obtain⟨x,hx⟩:=eX (tm zs j);rw[hx]at d1 H;clear hc hx;by_cases hxk:0≤x∧x≤1073741824
   .have HH:Hid (((true&&(zs.drop (j+1)).all JL)&&rs.all Vp)=B):=by show _=_;rw[<-H];simp[JL,hxk]
    obtain⟨q1,q2⟩:=hxk;clear H;go_wp2;go_round
    case rel=>exact⟨j+1,true,by omega,by go_num,by simp;try omega,HH⟩
    simp[intOf];omega
   have HH:Hid (((false&&(zs.drop (j+1)).all JL)&&rs.all Vp)=B):=by show _=_;rw[<-H,show JL x=false by simp[JL];omega];simp
   clear H;rcases(show x<0∨(0≤x∧1073741824<x) by omega)with q1|⟨q1,q2⟩;all_goals
    go_wp2;go_round
    case rel=>exact⟨j+1,false,by omega,by go_num,by simp;try omega,HH⟩
    simp[intOf];omega
 have H:=HJ.o;rw[drop_nil zs j hlt,List.all_nil,Bool.and_true]at H;have HB:=Hd H;clear H HJ;go_wp2;go_loop [10,12] (λok i=>∃(j:Nat)(b:Bool),j≤rs.length∧i=.i j∧ok=.bool b∧Hid ((b&&(rs.drop j).all Vp)=B)) (λ_ i=>rs.length-(intOf i).toNat)
 case atStart=>exact⟨0,b,Nat.zero_le _,rfl,rfl,HB⟩
 obtain⟨q,b',hq,rfl,rfl,HJ⟩:=hrel;clear HB;by_cases hlt:q<rs.length
 .have H:=HJ.o;rw[List.drop_eq_getElem_cons hlt,List.all_cons]at H;clear HJ;cases b' with
  |false=>
   have HH:Hid ((false&&(rs.drop (q+1)).all Vp)=B):=by show _=_;rw[<-H];simp
   clear H;go_wp2;go_round
   case rel=>exact⟨q+1,false,by omega,by go_num,rfl,HH⟩
   simp[intOf];omega
  |true=>
   obtain⟨bb,off,hb',hc⟩:=H3.o.2 (by omega);subst hb';obtain⟨d1,d2⟩:=hc q hlt;have l3:=H3.o.1;obtain⟨x,hx⟩:=eX rs[q];rw[hx]at d1 d2 H;obtain⟨c,s⟩:=x;simp only at d1 d2;clear hc hx;by_cases hxk:1≤c∧c≤20∧1≤s∧s≤1000000
   .have HH:Hid ((true&&(rs.drop (q+1)).all Vp)=B):=by show _=_;rw[<-H];simp[Vp,hxk]
    obtain⟨q1,q2,q3,q4⟩:=hxk;clear H;go_wp2;go_round
    case rel=>exact⟨q+1,true,by omega,by go_num,by simp;try omega,HH⟩
    simp[intOf];omega
   have HH:Hid ((false&&(rs.drop (q+1)).all Vp)=B):=by show _=_;rw[<-H,show Vp (c,s)=false by simp[Vp];omega];simp
   clear H;rcases(show c<1∨(1≤c∧20<c)∨(1≤c∧c≤20∧s<1)∨(1≤c∧c≤20∧1≤s∧1000000<s) by omega)with q1|⟨q1,q2⟩|⟨q1,q2,q3⟩|⟨q1,q2,q3,q4⟩;all_goals
    go_wp2;go_round
    case rel=>exact⟨q+1,false,by omega,by go_num,by simp;try omega,HH⟩
    simp[intOf];omega
 have H:=HJ.o;rw[drop_nil rs q hlt,List.all_nil,Bool.and_true]at H;clear HJ;subst H;cases b' with
 |false=>
  go_wp2;go_ret2;exact⟨rfl,Below.refl _ _⟩
 |true=>
  have hok:=Q6.o;simp only[Vo,oO,Bool.and_eq_true,decide_eq_true_eq]at hok;have HT:=Hd hok.1.1.2;have HN:=Hd hok.1.1.1;have HRS:=Hd hok.2.2;clear hok Q6;go_wp2;go_loopw [13,14] (λv i wr=>∃k:Nat,k≤zs.length∧i=.i k∧wr.ownsRow w.heap.size 4 1 v k (krk now zs last rs k)∧Below w.heap.size w wr) (λ_ i _=>zs.length-(intOf i).toNat)
  case atStart=>exact⟨0,Nat.zero_le _,rfl,World.ownsRow_nil _ _ _ _,Below.refl _ _⟩
  obtain⟨k,hk,rfl,hown,hbl⟩:=hrel;by_cases hlt:k<zs.length
  .obtain⟨W3,hW3⟩:=eY wr;subst hW3;have HROW:Hid (∀W',Below W3.heap.size W3 W'->Kn W' a1 zs c1):=λW' hb=>H1.o.below (hbl.trans (hb.mono hbl.size));have HROWR:Hid (∀W',Below W3.heap.size W3 W'->Wh W' a3 rs c3):=λW' hb=>H3.o.below (hbl.trans (hb.mono hbl.size));have HOWN:=Hd hown;have HBL:=Hd hbl;obtain⟨ao,cap,hsh⟩:∃ao cap,u13=.slice ao k cap:=by
    rcases hown.2 with⟨e,e'⟩|⟨g,cap,_,e,_⟩
    .exact⟨none,0,by rw[e,e']⟩
    exact⟨_,cap,e⟩
   subst hsh;clear hown hbl;go_wp2;go_loopw [15,16] (λa i wr=>∃(j m:Nat),j≤zs.length∧i=.i j∧a=.i (cnt zs k j:Nat)∧wr=W3.drewN m) (λ_ i _=>zs.length-(intOf i).toNat)
   case atStart=>exact⟨0,0,Nat.zero_le _,rfl,rfl,rfl⟩
   obtain⟨j2,m,hj2,rfl,rfl,rfl⟩:=hrel;have hcl:=cnt_le zs k j2;by_cases hlt2:j2<zs.length
   .have zM:=newer_any a1 zs c1 j2 k _ (HROW.o (W3.drewN m) (bdn (Below.refl _ _) m)) hlt2 hlt hz;have hcn:=cnt_next zs k j2;cases hnw:nw zs j2 k with
    |true=>
     rw[hnw]at zM hcn;have HCN:Hid (cnt zs k (j2+1)=cnt zs k j2+1):=by show _=_;rw[hcn];rfl
     clear hnw hcn;go_wp2_with (go_at_call 170;refine zM.mono ?_;rintro e w' ⟨rfl,q',hw⟩;rw[hw];clear hw);go_roundw
     case rel=>exact⟨j2+1,_,by omega,by go_num,by rw[HCN.o];go_num,rfl⟩
     simp[intOf];omega
    |false=>
     rw[hnw]at zM hcn;have HCN:Hid (cnt zs k (j2+1)=cnt zs k j2):=by show _=_;rw[hcn];rfl
     clear hnw hcn;go_wp2_with (go_at_call 170;refine zM.mono ?_;rintro e w' ⟨rfl,q',hw⟩;rw[hw];clear hw);go_roundw
     case rel=>exact⟨j2+1,_,by omega,by go_num,by rw[HCN.o],rfl⟩
     simp[intOf];omega
   have Xl:j2=zs.length:=by omega
   have hab:cnt zs k j2=above zs k:=by rw[Xl];rfl
   rw[hab]at hcl⊢;clear hab Xl;obtain⟨Kp,hKp⟩:=eX (keepR now zs last rs k);have HKP:=Hd hKp;unfold keepR at hKp;obtain⟨bb1,off1,hbb1,hc1⟩:=H1.o.2 (by omega);subst hbb1;have l1:=H1.o.1;have d0:cE (W3.drewN m) bb1 (off1+k) (tm zs k):=(HBL.o.cell (p:=(Ad bb1 (off1+k))) (World.block_lt_of_cell? _ _ (hc1 k hlt))).trans (hc1 k hlt);obtain⟨y,hy⟩:=eX (tm zs k);have HY:=Hd hy;rw[hy]at d0 hKp;clear hc1 hy;rcases(show(above zs k:Int)<last∨¬(above zs k:Int)<last∧now<y∨¬(above zs k:Int)<last∧¬now<y by omega)with hal|⟨hal,hny⟩|⟨hal,hny⟩
   case' inl=>
    have HI:Hid ((true||(rs.drop 0).any (RN now zs k))=Kp):=by show _=_;rw[<-hKp];simp[hal]
    have HLE:Hid (true=false->tm zs k≤now):=λe=>by cases e
   case' inr.inl=>
    have HI:Hid ((true||(rs.drop 0).any (RN now zs k))=Kp):=by show _=_;rw[<-hKp];simp[hny]
    have HLE:Hid (true=false->tm zs k≤now):=λe=>by cases e
   case' inr.inr=>
    have HI:Hid ((false||(rs.drop 0).any (RN now zs k))=Kp):=by show _=_;rw[<-hKp];simp[hny,hal]
    have HLE:Hid (tm zs k≤now):=by show _≤_;rw[HY.o];omega
   all_goals
    clear hKp;go_wp2;go_loopw [18,19] (λkp i wr=>∃(j5:Nat)(kb:Bool),j5≤rs.length∧i=.i j5∧kp=.bool kb∧Below W3.heap.size W3 wr∧Hid ((kb||(rs.drop j5).any (RN now zs k))=Kp)∧Hid (kb=false->tm zs k≤now)) (λ_ i _=>rs.length-(intOf i).toNat)
    case atStart=>first|exact⟨0,_,Nat.zero_le _,rfl,rfl,bdn (Below.refl _ _) _,HI,HLE⟩|exact⟨0,_,Nat.zero_le _,rfl,rfl,bdn (Below.refl _ _) _,HI,λ_=>HLE.o⟩
    obtain⟨j5,kb,hj5,rfl,rfl,hb5,VT,HLE5⟩:=hrel;obtain⟨W5,kJ⟩:=eY wr;subst kJ;clear HI HLE;by_cases hgo:j5<rs.length∧kb=false
    .obtain⟨Xy,rfl⟩:=hgo;obtain⟨bb,off,hbb,hc⟩:=(HROWR.o W5 hb5).2 (by omega);subst hbb;obtain⟨d1,d2⟩:=hc j5 Xy;have l3:=H3.o.1;have H:=VT.o;rw[List.drop_eq_getElem_cons Xy,List.any_cons,Bool.false_or]at H;have hrok:=List.all_eq_true.1 HRS.o rs[j5] (List.getElem_mem Xy);obtain⟨x,hx⟩:=eX rs[j5];rw[hx]at d1 d2 H hrok;obtain⟨c,s⟩:=x;simp only at d1 d2;simp only[Vp,Bool.and_eq_true,decide_eq_true_eq]at hrok;have UY:=refkept_any now (some (Ad bb1 off1)) zs c1 k c s W5 (HROW.o W5 hb5) hz hlt HN.o HT.o (HLE5.o rfl) (by omega);obtain⟨kk,hkk⟩:=eX (RN now zs k (c,s));rw[hkk]at UY H;have HH:=Hd H;have HLE6:Hid (kk=false->tm zs k≤now):=λ_=>HLE5.o rfl;clear hc hx hkk H VT HLE5 hrok;go_wp2_with (go_at_call 171;refine UY.mono ?_;rintro e w' ⟨rfl,hb6⟩);go_roundw
     case rel=>exact⟨j5+1,kk,by omega,by go_num,rfl,hb5.trans (hb6.mono hb5.size),HH,HLE6⟩
     simp[intOf];omega
    have hkp:kb=Kp:=by
     have h:=VT.o;cases kb with
     |true=>simpa using h
     |false=>
      have:¬j5<rs.length:=λx=>hgo ⟨x,rfl⟩;rw[drop_nil rs j5 this]at h;simpa using h
    have hcs:(kb=true∧(j5:Int)<(rs.length:Int))∨(kb=true∧¬(j5:Int)<(rs.length:Int))∨(kb=false∧¬(j5:Int)<(rs.length:Int)):=by
     cases kb with
     |true=>
      by_cases h5:(j5:Int)<(rs.length:Int)
      .exact Or.inl ⟨rfl,h5⟩
      exact Or.inr (Or.inl ⟨rfl,h5⟩)
     |false=>exact Or.inr (Or.inr ⟨rfl,λx=>hgo ⟨by omega,rfl⟩⟩)
    have hO5:=own_below HOWN.o hb5;have hsz5:w.heap.size≤W5.heap.size:=Nat.le_trans HBL.o.size hb5.size;clear VT HLE5 hgo;rcases hcs with⟨hcs,hcs2⟩|⟨hcs,hcs2⟩|⟨hcs,hcs2⟩;all_goals
     subst hcs;subst hkp;go_wp2_with (at_builtin;refine wpList_append_own _ rfl (.tmp 145) (.tmp 147) 228 rfl w.heap.size 4 i0 _ 1 1 Tryz.underlying228 hi hz0 hz1 hz2 rfl (by decide) _ _ _ rfl (hO5.alloc _) (Ad W5.heap.size 0) 1 1 [.bool _] rfl rfl (cells_one _ _ _) (bool_one _) (by unfold maxLen;omega) (by omega) (by simp;omega) ?_);intro v' w9 aH aJ _;have hE:w9.ownsRow w.heap.size 4 1 v' (k+1) (krk now zs last rs (k+1)):=by rw[krk_next,HKP.o];exact aH
     have IX:=((HBL.o.trans (hb5.mono HBL.o.size)).alloc hsz5 _).grown aJ (by simp;omega) (λb e=>(hO5.lt b e).1);clear aH aJ hO5;go_wp2;go_roundw
     case rel=>exact⟨k+1,by omega,by go_num,hE,IX⟩
     simp[intOf];omega
  have hke:k=zs.length:=by omega
  have hE:wr.ownsRow w.heap.size 4 1 u13 zs.length (kr now zs last rs):=by rw[hke]at hown;exact hown
  clear hown hke;go_wp2;go_ret2;exact⟨_,rfl,hE,hbl⟩
end Go.Proofs.YtjceeemlilnplaaGreatDoor.Kp
