import Derived.Test.YtjceeemlilnplaaGreatDoorM43
import Derived.Test.YtjceeemlilnplaaGreatDoorM42
set_option maxRecDepth 100000
set_option maxHeartbeats 12800000
set_option linter.all false
namespace Go.Proofs.YtjceeemlilnplaaGreatDoor.Gp
open Go.RowKit Pl
theorem info34:(Tryz.prog.info? 172).map (λi=>(i.zero,i.size,i.bytes))=some (some (.agg #[.i 0,.i 0]),2,16):=by kernel_rfl
def rc(rs:List (Int×Int)):List Value:=rs.flatMap λr=>[.i r.1,.i r.2]
theorem rc_app(a b:List (Int×Int)):rc (a++b)=rc a++rc b:=by simp[rc]
theorem below_grown{w w':World}(h:Below w.heap.size w w'):w.grownBy w' none:=⟨h.os,h.tape,h.output,h.size,λk hk _=>h.block k hk⟩
theorem own_below{w w':World}{base:Nat}{e:TypeId}{size:Nat}{v:Value}{n:Nat}{xs:List Value}(h:w.ownsRow base e size v n xs)(hb:Below w.heap.size w w'):w'.ownsRow base e size v n xs:=
 h.kept (below_grown hb) (by cases hv:v.ownBlock<;>simp)
theorem dD{w:World}{base base':Nat}{e:TypeId}{size:Nat}{v:Value}{n:Nat}{xs:List Value}(h:w.ownsRow base e size v n xs)(hb:base'≤base):w.ownsRow base' e size v n xs:=by
 refine⟨h.1,?_⟩;rcases h.2 with hn|⟨g,cap,cur,hv,hg,r⟩
 .exact Or.inl hn
 exact Or.inr ⟨g,cap,cur,hv,by omega,r⟩
def en(o:Option (List (Int×Int))):Int:=if o.isSome then 0 else 2
theorem gp_step(p:List UInt8)(l:List (List UInt8))(r:Int×Int)(h:pr p=some r):gp (p::l)=(gp l).map (r::·):=by simp[gp,h]
theorem gp_fail(p:List UInt8)(l:List (List UInt8))(h:pr p=none):gp (p::l)=none:=by simp[gp,h]
theorem mna(o:Option (List (Int×Int))):o=o.map ([]++·):=by cases o<;>simp
theorem mns(o:Option (List (Int×Int)))(rs:List (Int×Int))(r:Int×Int):(o.map (r::·)).map (rs++·)=o.map ((rs++[r])++·):=by cases o<;>simp
theorem cell_piece(w:World)(ps:List cC)(N k:Nat)(h:k<ps.length)(_hN:ps.length≤N):(w.alloc (.cells (Lib.cellsOf ps N) 9)).cell? (Ad w.heap.size k)=some (.t (ps[k]'h)):=by rw[cell_of_row _ _ k (Lib.cellsOf ps N) 9 (0,0) (heap_alloc_new w _)];simp only[Lib.cellsOf,List.getElem?_toArray];rw[List.getElem?_append_left (by simpa using h)];simp[h]
theorem spN_enough:∀(k j:Nat)(t:List UInt8),t.length≤k->spN (k+j) t=spN k t
 |0,j,t,h=>by have:t=[]:=List.eq_nil_of_length_eq_zero (by omega);subst this;rw[spN_miss _ _ (by simp),spN_miss _ _ (by simp)]
 |k+1,j,t,h=>by
  by_cases hb:(32:UInt8)∈t
  .obtain⟨p,r,rfl,hp⟩:=tw_in 32 t hb;rw[show k+1+j=(k+j)+1 by omega,spN_hit _ p r hp,spN_hit _ p r hp,spN_enough k j r (by simp at h;omega)]
  rw[spN_miss _ _ hb,spN_miss _ _ hb]
theorem rp_pieces(s:cC)(N:Nat)(hN:N=min 5 (s.size+1))(ps:List cC)(h1:ps.map dl=spN (N-1) (dl s)):rp 5 (dl s)=if 4<ps.length then none else gp (ps.map dl):=by
 have e:spN (N-1) (dl s)=spN 4 (dl s):=by
  by_cases h:s.size≤4
  .have:=spN_enough (N-1) (4-(N-1)) (dl s) (by simp[dl];omega);rw[<-this];congr 1;omega
  congr 1;omega
 rw[rp_eq 4,<-e,<-h1];simp
theorem OI(s:cC)(w:World)(hs:s.size≤140737488355328):
 Cl 61 #[.t s] w λe w'=>∃v,e=.returned (.tuple #[v,.i (en (rp 5 (dl s)))])∧w'.ownsRow w.heap.size 172 2 v ((rp 5 (dl s)).getD []).length (rc ((rp 5 (dl s)).getD []))∧Below w.heap.size w w':=by
 obtain⟨i0,hi,hz0,hz1,hz2⟩:=info_parts info34;obtain⟨N,hN⟩:=eY (min 5 (s.size+1));have HSP:=splitn_any s w N hN hs;obtain⟨R,hR⟩:=eX (rp 5 (dl s));rw[hR];have HR:=Hd hR;have HN:=Hd hN;clear hR hN;go_enter Tryz.func61,Tryz.ntmps61;go_wp2_with fail;refine HSP.mono ?_;rintro e w' ⟨ps,h1,h2,h3,rfl,rfl⟩;clear HSP;have MI:=rp_pieces s N HN.o ps h1;rw[HR.o]at MI;clear HR h1 HN;by_cases h4:4<ps.length
 .rw[if_pos h4]at MI;subst MI;have h4':(4:Int)<(ps.length:Int):=by omega
  go_wp2;go_ret2;exact⟨_,rfl,World.ownsRow_nil _ _ _ _,(Below.refl _ _).alloc (Nat.le_refl _) _⟩
 rw[if_neg h4]at MI;have h4':¬(4:Int)<(ps.length:Int):=by omega
 have HRP:=Hd MI;clear MI;go_wp2_with (at_make;refine wpList_make_own _ rfl _ _ 64 rfl (w.heap.size+1) 172 i0 _ 2 Tryz.underlying64 hi hz0 hz1 _ _ _ ps.length rfl rfl rfl (by rw[hz2];omega) (by unfold maxLen;omega) (by simp) ?_;intro w1 hown1 hgrow1);have RH:Below (w.heap.size+1) (w.alloc (.cells (Lib.cellsOf ps N) 9)) w1:=(Below.refl _ _).grown hgrow1 (by simp) (λk e=>by cases e);clear hgrow1;rw[show(w.alloc (.cells (Lib.cellsOf ps N) 9)).heap.size=w.heap.size+1 from by simp]at hown1;go_loopw [5,20] (λv i wr=>∃(k:Nat)(rs:List (Int×Int)),k≤ps.length∧i=.i k∧v=.slice (some (Ad (w.heap.size+1) 0)) k ps.length∧rs.length=k∧
  wr.ownsRow (w.heap.size+1) 172 2 (.slice (some (Ad (w.heap.size+1) 0)) k ps.length) k (rc rs)∧Below (w.heap.size+1) (w.alloc (.cells (Lib.cellsOf ps N) 9)) wr∧Hid (R=(gp ((ps.map dl).drop k)).map (rs++·))) (λ_ i _=>ps.length-(intOf i).toNat)
 case atStart=>exact⟨0,[],Nat.zero_le _,rfl,rfl,rfl,hown1,RH,HRP.o.trans (mna _)⟩
 obtain⟨k,rs,hk,rfl,rfl,hrl,hown,hbl,HK⟩:=hrel;clear hown1 RH HRP;have hlt1:=hown.lt _ rfl;have hB:=((Below.refl _ _).alloc (Nat.le_refl _) _).trans (hbl.mono (by omega));by_cases hlt:k<ps.length
 .have hc:=(hbl.cell (p:=(Ad w.heap.size k)) (by show w.heap.size<w.heap.size+1;omega)).trans (cell_piece w ps N k hlt h2);have hps:ps[k].size≤140737488355328:=Nat.le_trans (h3 _ (List.getElem_mem hlt)) hs;have hdrop:(ps.map dl).drop k=dl ps[k]::(ps.map dl).drop (k+1):=by rw[List.drop_eq_getElem_cons (by simpa using hlt)];simp
  have hK:=HK.o;rw[hdrop]at hK;have HPR:=prule_any ps[k] wr hps;cases hpr:pr (dl ps[k])with
  |none=>
   rw[gp_fail _ _ hpr]at hK;rw[hpr]at HPR;simp only[Option.map_none]at hK;subst hK;clear hdrop HK hpr;go_wp2_with (go_at_call 115;refine HPR.mono ?_;rintro e w2 ⟨rfl,hb2⟩);go_ret2;exact⟨_,rfl,World.ownsRow_nil _ _ _ _,(hB.trans (hb2.mono (by omega))).alloc (by have:=hb2.size;omega) _⟩
  |some r=>
   obtain⟨c,q⟩:=r;rw[gp_step _ _ (c,q) hpr]at hK;rw[hpr]at HPR;have HKK:Hid _:=hK;clear hdrop HK hpr hK;go_wp2_with (first|(go_at_call 115;refine HPR.mono ?_;rintro e w2 ⟨rfl,hb2⟩)|(at_builtin;refine wpList_append_fits _ rfl (.tmp 31) (.tmp 33) 64 rfl (w.heap.size+1) 172 i0 2 Tryz.underlying64 hi hz1 (w.heap.size+1) k ps.length (rc rs) rfl (((own_below hown hb2).alloc _).alloc _) (Ad (w2.heap.size+1) 0) 1 1 [.i c,.i q] rfl rfl ?c1 ?c2 (by omega) ?_))
   case c1=>intro j u hj;match j,hj with|0,hj=>simp at hj;subst hj;simp[Addr.add]|1,hj=>simp at hj;subst hj;simp[Addr.add]
   case c2=>intro u hu;simp at hu;rcases hu with rfl|rfl<;>rfl
   intro w3 hown3 hgrow3;have hb3:Below (w.heap.size+1) (w.alloc (.cells (Lib.cellsOf ps N) 9)) w3:=(((hbl.trans (hb2.mono (by omega))).alloc (by have:=hb2.size;omega) _).alloc (by have:=hb2.size;simp;omega) _).grown hgrow3 (by have:=hb2.size;simp;omega) (λj e=>by cases e;omega);clear hgrow3 hb2 HPR hown hbl hB;go_wp2;go_roundw
   case rel=>exact⟨k+1,rs++[(c,q)],by omega,by go_num,rfl,by simp[hrl],by rw[rc_app];exact hown3,hb3,HKK.o.trans (mns _ _ _)⟩
   simp[intOf];omega
 have hke:k=ps.length:=by omega
 have hK:=HK.o;rw[List.drop_eq_nil_of_le (by simp;omega)]at hK;simp only[gp,Option.map_some,List.append_nil]at hK;subst hK;clear HK;have hE:wr.ownsRow w.heap.size 172 2 (.slice (some (Ad (w.heap.size+1) 0)) k ps.length) rs.length (rc rs):=by rw[hrl];exact dD hown (by omega)
 clear hown hke hrl;go_wp2;go_ret2;exact⟨_,rfl,hE,hB⟩
end Go.Proofs.YtjceeemlilnplaaGreatDoor.Gp
namespace Go.Proofs.YtjceeemlilnplaaGreatDoor.Gp
open Go.RowKit Pl
theorem ah{w:World}{base:Nat}{e:TypeId}{size:Nat}{v:Value}{n:Nat}{xs:List Value}(h:w.ownsRow base e size v n xs):∃ao cap,v=.slice ao n cap:=by
 rcases h.2 with⟨rfl,rfl⟩|⟨g,cap,_,rfl,_⟩
 .exact⟨none,0,rfl⟩
 exact⟨_,cap,rfl⟩
theorem rp1(f:Nat)(t:List UInt8)(h:dg 20 t=none):rp (f+1) t=none:=by simp[rp,one,h]
theorem rp2(f:Nat)(t:List UInt8)(c:Int)(k:Nat)(h:dg 20 t=some (c,k))(h2:t.drop k=[]):rp (f+1) t=none:=by simp[rp,one,h,h2]
theorem rp3(f:Nat)(t:List UInt8)(c:Int)(k:Nat)(x:UInt8)(t2:List UInt8)(h:dg 20 t=some (c,k))(h2:t.drop k=x::t2)(h3:x≠120):rp (f+1) t=none:=by simp[rp,one,h,h2,h3]
theorem rp4(f:Nat)(t:List UInt8)(c:Int)(k:Nat)(t2:List UInt8)(h:dg 20 t=some (c,k))(h2:t.drop k=120::t2)(h3:dg 1000000 t2=none):rp (f+1) t=none:=by simp[rp,one,h,h2,h3]
theorem rp5(t:List UInt8):rp 1 t=none:=by unfold rp;split<;>simp
theorem rp6(f:Nat)(t:List UInt8)(c:Int)(k:Nat)(t2:List UInt8)(n:Int)(k2:Nat)(h:dg 20 t=some (c,k))(h2:t.drop k=120::t2)(h3:dg 1000000 t2=some (n,k2))(h4:t2.drop k2=[]):rp (f+2) t=some [(c,n)]:=by simp[rp,one,h,h2,h3,h4]
theorem rp7(f:Nat)(t:List UInt8)(c:Int)(k:Nat)(t2:List UInt8)(n:Int)(k2:Nat)(b:UInt8)(t4:List UInt8)(h:dg 20 t=some (c,k))(h2:t.drop k=120::t2)(h3:dg 1000000 t2=some (n,k2))(h4:t2.drop k2=b::t4)(h5:b≠32):rp (f+2) t=none:=by rw[show rp (f+2) t=match one t with|none=>none|some (r,rest)=>if f+1=0 then none else(match rest with|[]=>some [r]|b::t4=>if b=32 then(rp (f+1) t4).map (r::·)else none) from rfl];simp[one,h,h2,h3,h4,h5]
theorem rp8(f:Nat)(t:List UInt8)(c:Int)(k:Nat)(t2:List UInt8)(n:Int)(k2:Nat)(t4:List UInt8)(h:dg 20 t=some (c,k))(h2:t.drop k=120::t2)(h3:dg 1000000 t2=some (n,k2))(h4:t2.drop k2=32::t4):rp (f+2) t=(rp (f+1) t4).map ((c,n)::·):=by rw[show rp (f+2) t=match one t with|none=>none|some (r,rest)=>if f+1=0 then none else(match rest with|[]=>some [r]|b::t4=>if b=32 then(rp (f+1) t4).map (r::·)else none) from rfl];simp[one,h,h2,h3,h4]
theorem drop_end(s:cC)(k:Nat)(h:s.size≤k):s.data.toList.drop k=[]:=List.drop_eq_nil_of_le (by simpa using h)
theorem dg_len(most:Int)(s:cC)(a k:Nat)(n:Int)(ha:a≤s.size)(h:dg most (s.data.toList.drop a)=some (n,k)):a+k≤s.size:=by have:=(dg_to most _ n k h).1;simp at this;omega
theorem byte_ne120{x:UInt8}(h:¬x=120):(((x.toNat:Nat):Int) != 120)=true:=by rw[bne_iff_ne];intro e;apply h;apply UInt8.toNat_inj.1;show x.toNat=120;omega
theorem byte_ne32{x:UInt8}(h:¬x=32):(((x.toNat:Nat):Int) != 32)=true:=by rw[bne_iff_ne];intro e;apply h;apply UInt8.toNat_inj.1;show x.toNat=32;omega
theorem cells_two(w:World)(a b:Value):∀j u,[a,b][j]?=some u->(w.alloc (.cells #[a,b] 172)).cell? (((Ad w.heap.size 0):Addr).add j)=some u:=by
 intro j u hj
 match j,hj with
 |0,hj=>simp at hj;subst hj;simp[Addr.add]
 |1,hj=>simp at hj;subst hj;simp[Addr.add]
theorem two_one(a b:Int):∀u∈[Value.i a,.i b],u.oneCell'=true:=by intro u hu;simp at hu;rcases hu with rfl|rfl<;>rfl
theorem OJ(s:cC)(w:World)(hs:s.size≤140737488351232):
 Cl 34 #[.t s] w λe w'=>∃v,e=.returned (.tuple #[v,.i (en (rp 5 (dl s)))])∧w'.ownsRow w.heap.size 172 2 v ((rp 5 (dl s)).getD []).length (rc ((rp 5 (dl s)).getD []))∧Below w.heap.size w w':=by
 obtain⟨i0,hi,hz0,hz1,hz2⟩:=info_parts info34;obtain⟨R,hR⟩:=eX (rp 5 (dl s));rw[hR];have HR:=Hd hR;clear hR;go_enter Tryz.func34,Tryz.ntmps34;go_wp2;go_loopg [4,5,6] 6 (λg v a m wr=>∃(rs:List (Int×Int))(at_:Nat)(mo:Bool)(ao:Option Addr)(cap:Nat),v=.slice ao rs.length cap∧a=.i at_∧m=.bool mo∧rs.length≤4∧wr.ownsRow w.heap.size 172 2 (.slice ao rs.length cap) rs.length (rc rs)∧Below w.heap.size w wr∧
  (g=if mo then 6-rs.length else 0)∧(mo=true->at_≤s.size∧Hid (R=(rp (5-rs.length) (s.data.toList.drop at_)).map (rs++·)))∧Hid (mo=false->R=some rs))
 case atStart=>exact⟨[],0,true,none,0,rfl,rfl,rfl,by simp,World.ownsRow_nil _ _ _ _,Below.refl _ _,rfl,λ_=>⟨Nat.zero_le _,HR.o.symm.trans (mna _)⟩,λh=>by cases h⟩
 obtain⟨rs,at_,mo,ao,cap,rfl,rfl,rfl,hrl,hown,hbl,hg,hmo,HF⟩:=hrel;cases mo with
 |false=>
  have:=HF.o rfl;subst this;clear HF hmo HR;go_wp2;go_ret2;exact⟨_,rfl,hown,hbl⟩
 |true=>
  obtain⟨ha,HK⟩:=hmo rfl;clear hmo HF HR;simp only[if_true]at hg;obtain⟨f,hf⟩:∃f,5-rs.length=f+1:=⟨4-rs.length,by omega⟩;have hK:=HK.o;rw[hf]at hK;have HD:=digits_any s at_ 20 wr (by omega) ha (by decide) (by decide);have bad:∀{w':World}{R':Option (List (Int×Int))},R'=none->Below w.heap.size w w'->∃v,Ending.returned (.tuple #[.slice none 0 0,.i 2])=.returned (.tuple #[v,.i (en R')])∧w'.ownsRow w.heap.size 172 2 v (R'.getD []).length (rc (R'.getD []))∧Below w.heap.size w w':=λe hb=>by subst e;exact⟨_,rfl,World.ownsRow_nil _ _ _ _,hb⟩
  have BAD:Hid _:=@bad;clear bad;cases h1:dg 20 (s.data.toList.drop at_)with
  |none=>
   rw[h1]at HD;rw[rp1 f _ h1]at hK;simp only[Option.map_none]at hK;have HKK:Hid _:=hK;clear hK HK h1;go_wp2_with (go_at_call 62;refine HD.mono ?_;rintro e w' ⟨rfl,rfl⟩;simp only[dgN,dgE]);go_ret2;exact BAD.o HKK.o hbl
  |some x=>
   obtain⟨c,k⟩:=x;have hk:=dg_len 20 s at_ k c ha h1;rw[h1]at HD;have p0:(0:Int)≤(at_:Int)+(k:Int):=by omega
   by_cases hlt:at_+k<s.size
   .have hd:=drop_get s (at_+k) hlt;have hltz:(at_:Int)+(k:Int)<(s.size:Int):=by omega
    by_cases hx:s[at_+k]=120
    .have ht:((s[at_+k].toNat:Int) != 120)=false:=by rw[hx];rfl
     have h2:(s.data.toList.drop at_).drop k=120::s.data.toList.drop (at_+k+1):=by rw[List.drop_drop,hd,hx]
     have HD2:=digits_any s (at_+k+1) 1000000 wr (by omega) (by omega) (by decide) (by decide);rw[show((at_+k+1:Nat):Int)=(at_:Int)+(k:Int)+1 by omega]at HD2;cases h3:dg 1000000 (s.data.toList.drop (at_+k+1))with
     |none=>
      rw[h3]at HD2;rw[rp4 f _ c k _ h1 h2 h3]at hK;simp only[Option.map_none]at hK;have HKK:Hid _:=hK;clear hK HK h1 h2 h3 hd hx;go_wp2_with fail;refine HD.mono ?_;rintro e w' ⟨rfl,rfl⟩;simp only[dgN,dgE];go_wp2_with fail;refine HD2.mono ?_;rintro e w' ⟨rfl,rfl⟩;simp only[dgN,dgE];go_wp2;go_ret2;exact BAD.o HKK.o hbl
     |some y=>
      obtain⟨n,k2⟩:=y;rw[h3]at HD2;have hk2:=dg_len 1000000 s (at_+k+1) k2 n (by omega) h3;have p2:(0:Int)≤(at_:Int)+(k:Int)+1+(k2:Int):=by omega
      by_cases h4:rs.length=4
      .have hf0:f=0:=by omega
       subst hf0;rw[rp5]at hK;simp only[Option.map_none]at hK;have HKK:Hid _:=hK;have h4b:((rs.length:Int)==4)=true:=by rw[h4];rfl
       clear hK HK h1 h2 h3 hd hx h4 hf;go_wp2_with fail;refine HD.mono ?_;rintro e w' ⟨rfl,rfl⟩;simp only[dgN,dgE];go_wp2_with fail;refine HD2.mono ?_;rintro e w' ⟨rfl,rfl⟩;simp only[dgN,dgE];go_wp2;go_ret2;exact BAD.o HKK.o hbl
      obtain⟨f',rfl⟩:∃f',f=f'+1:=⟨f-1,by omega⟩;have h4b:((rs.length:Int)==4)=false:=by rw[beq_eq_false_iff_ne];omega
      have hrl3:rs.length≤3:=by omega
      by_cases hlt2:at_+k+1+k2<s.size
      .have hd2:=drop_get s (at_+k+1+k2) hlt2;have MF:(at_:Int)+(k:Int)+1+(k2:Int)<(s.size:Int):=by omega
       by_cases hb:s[at_+k+1+k2]=32
       .have htb:((s[at_+k+1+k2].toNat:Int) != 32)=false:=by rw[hb];rfl
        rw[rp8 f' _ c k _ n k2 _ h1 h2 h3 (by rw[List.drop_drop,hd2,hb]),mns]at hK;have HKK:Hid _:=hK;clear hK HK h1 h2 h3 hd hx h4 hd2 hb;go_wp2_with fail;refine HD.mono ?_;rintro e w1 ⟨rfl,hw⟩;rw[hw];clear hw;simp only[dgN,dgE];go_wp2_with fail;refine HD2.mono ?_;rintro e w2 ⟨rfl,hw⟩;rw[hw];clear hw;simp only[dgN,dgE];go_wp2_with (at_builtin;refine wpList_append_own _ rfl (.tmp 46) (.tmp 50) 64 rfl w.heap.size 172 i0 _ 2 16 Tryz.underlying64 hi hz0 hz1 hz2 rfl (by decide) _ _ _ rfl (hown.alloc _) (Ad wr.heap.size 0) 1 1 [.i c,.i n] rfl rfl (cells_two _ _ _) (two_one _ _) (by unfold maxLen;omega) (by omega) (by have:=hbl.size;simp;omega) ?_);intro v' w3 hown3 hgrow3 _;obtain⟨ao',cap',rfl⟩:=ah hown3;have hb3:=(hbl.alloc hbl.size _).grown hgrow3 (by have:=hbl.size;simp;omega) (λj e=>(hown.lt j e).1);clear hgrow3 HD HD2 hown hbl;go_wp2;go_roundg (6-(rs.length+1))
        case measure=>omega
        refine⟨rs++[(c,n)],at_+k+1+k2+1,true,ao',cap',by simp,by go_num,rfl,by simp;omega,?_,hb3,by simp,λ_=>⟨by omega,?_⟩,λh=>by cases h⟩
        .rw[rc_app,List.length_append];exact hown3
        show R=_;rw[HKK.o,List.length_append,show 5-(rs.length+[(c,n)].length)=f'+1 by simp;omega]
       have htb:((s[at_+k+1+k2].toNat:Int) != 32)=true:=byte_ne32 hb;rw[rp7 f' _ c k _ n k2 _ _ h1 h2 h3 (by rw[List.drop_drop,hd2]) hb]at hK;simp only[Option.map_none]at hK;have HKK:Hid _:=hK;clear hK HK h1 h2 h3 hd hx h4 hd2 hb;go_wp2_with fail;refine HD.mono ?_;rintro e w1 ⟨rfl,hw⟩;rw[hw];clear hw;simp only[dgN,dgE];go_wp2_with fail;refine HD2.mono ?_;rintro e w2 ⟨rfl,hw⟩;rw[hw];clear hw;simp only[dgN,dgE];go_wp2_with (at_builtin;refine wpList_append_own _ rfl (.tmp 46) (.tmp 50) 64 rfl w.heap.size 172 i0 _ 2 16 Tryz.underlying64 hi hz0 hz1 hz2 rfl (by decide) _ _ _ rfl (hown.alloc _) (Ad wr.heap.size 0) 1 1 [.i c,.i n] rfl rfl (cells_two _ _ _) (two_one _ _) (by unfold maxLen;omega) (by omega) (by have:=hbl.size;simp;omega) ?_);intro v' w3 hown3 hgrow3 _;obtain⟨ao',cap',rfl⟩:=ah hown3;have hb3:=(hbl.alloc hbl.size _).grown hgrow3 (by have:=hbl.size;simp;omega) (λj e=>(hown.lt j e).1);clear hgrow3 HD HD2 hown hbl;go_wp2;go_ret2;exact BAD.o HKK.o hb3
      have MF:¬(at_:Int)+(k:Int)+1+(k2:Int)<(s.size:Int):=by omega
      rw[rp6 f' _ c k _ n k2 h1 h2 h3 (by rw[List.drop_drop];exact drop_end s _ (by omega))]at hK;have HKK:Hid _:=hK;clear hK HK h1 h2 h3 hd hx h4;go_wp2_with fail;refine HD.mono ?_;rintro e w1 ⟨rfl,hw⟩;rw[hw];clear hw;simp only[dgN,dgE];go_wp2_with fail;refine HD2.mono ?_;rintro e w2 ⟨rfl,hw⟩;rw[hw];clear hw;simp only[dgN,dgE];go_wp2_with (at_builtin;refine wpList_append_own _ rfl (.tmp 46) (.tmp 50) 64 rfl w.heap.size 172 i0 _ 2 16 Tryz.underlying64 hi hz0 hz1 hz2 rfl (by decide) _ _ _ rfl (hown.alloc _) (Ad wr.heap.size 0) 1 1 [.i c,.i n] rfl rfl (cells_two _ _ _) (two_one _ _) (by unfold maxLen;omega) (by omega) (by have:=hbl.size;simp;omega) ?_);intro v' w3 hown3 hgrow3 _;obtain⟨ao',cap',rfl⟩:=ah hown3;have hb3:=(hbl.alloc hbl.size _).grown hgrow3 (by have:=hbl.size;simp;omega) (λj e=>(hown.lt j e).1);clear hgrow3 HD HD2 hown hbl;go_wp2;go_roundg 0
      case measure=>omega
      refine⟨rs++[(c,n)],at_+k+1+k2+1,false,ao',cap',by simp,by go_num,rfl,by simp;omega,?_,hb3,by simp,λh=>(by cases h),λ_=>HKK.o⟩;rw[rc_app,List.length_append];exact hown3
    have ht:((s[at_+k].toNat:Int) != 120)=true:=byte_ne120 hx;rw[rp3 f _ c k _ _ h1 (by rw[List.drop_drop,hd]) hx]at hK;simp only[Option.map_none]at hK;have HKK:Hid _:=hK;clear hK HK h1 hd hx;go_wp2_with (go_at_call 62;refine HD.mono ?_;rintro e w' ⟨rfl,rfl⟩;simp only[dgN,dgE]);go_ret2;exact BAD.o HKK.o hbl
   rw[rp2 f _ c k h1 (by rw[List.drop_drop];exact drop_end s _ (by omega))]at hK;simp only[Option.map_none]at hK;have hltz:¬(at_:Int)+(k:Int)<(s.size:Int):=by omega
   have HKK:Hid _:=hK;clear hK HK h1;go_wp2_with (go_at_call 62;refine HD.mono ?_;rintro e w' ⟨rfl,rfl⟩;simp only[dgN,dgE]);go_ret2;exact BAD.o HKK.o hbl
end Go.Proofs.YtjceeemlilnplaaGreatDoor.Gp
