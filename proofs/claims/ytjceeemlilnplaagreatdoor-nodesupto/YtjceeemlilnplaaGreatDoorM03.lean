import Derived.Test.YtjceeemlilnplaaGreatDoorM02
import Derived.Lib.AppendStr
import Derived.Deep.AppendLies
set_option maxRecDepth 100000
set_option maxHeartbeats 12800000
set_option linter.all false
namespace Go.Proofs.YtjceeemlilnplaaGreatDoor
open Go.RowKit Go.Maps Go.MuLone
theorem info_parts{t:TypeId}{z:Value}{a b:Nat}(h:(Tryz.prog.info? t).map (λi=>(i.zero,i.size,i.bytes))=some (some z,a,b)):∃i,Tryz.prog.info? t=some i∧i.zero=some z∧i.size=a∧i.bytes=b:=by
 cases hi:Tryz.prog.info? t with
 |none=>rw[hi]at h;simp at h
 |some i=>rw[hi]at h;simp at h;exact⟨i,rfl,h.1,h.2.1,h.2.2⟩
theorem qQ{w:World}{vb o:Nat}{x:B4}(h0:w.cell? (Ad vb o)=some (u8 x.a))(h1:w.cell? (Ad vb (o+1))=some (u8 x.b))(h2:w.cell? (Ad vb (o+2))=some (u8 x.c))(h3:w.cell? (Ad vb (o+3))=some (u8 x.d)):
 (convert 134 9 (.slice (some (Ad vb o)) 4 4)).run Tryz.prog w=.ok x.str w:=by
 have:=run_convert_bytes_back (P:=Tryz.prog) w 134 9 5 (Ad vb o) 4 x.list Tryz.underlying134 Tryz.underlying5 Tryz.underlying9 (by
  intro j hj;have hj':j<4:=hj;rcases(by omega:j=0∨j=1∨j=2∨j=3)with rfl|rfl|rfl|rfl
  .exact h0
  .exact h1
  .exact h2
  exact h3)
 exact this
def eH(z:Int):UInt8:=UInt8.ofNat (z%256).toNat
theorem dX(z:Int):z%256=((eH z).toNat:Int):=by unfold eH;rw[UInt8.toNat_ofNat'];omega
def n4(z:Int):B4:=⟨eH (z / 16777216),eH (z / 65536),eH (z / 256),eH z⟩
def B4.ba(x:B4):cC:=⟨#[x.a,x.b,x.c,x.d]⟩
theorem bf(z:Int)(w:World):
 Rc 110 #[.i z] w (.t (n4 z).ba) λw'=>Fr [] w w':=by
 have e1:=dX (z / 16777216);have e2:=dX (z / 65536);have e3:=dX (z / 256);have e4:=dX z;have hcv:(convert 134 9 (.slice (some (Ad w.heap.size 0)) 4 4)).run Tryz.prog (w.alloc (.cells #[.u (z / 16777216%256),.u (z / 65536%256),.u (z / 256%256),.u (z%256)] 5))=.ok (.t (n4 z).ba) (w.alloc (.cells #[.u (z / 16777216%256),.u (z / 65536%256),.u (z / 256%256),.u (z%256)] 5)):=by rw[e1,e2,e3,e4];exact qQ (x:=n4 z) (by simp[u8,n4]) (by simp[u8,n4]) (by simp[u8,n4]) (by simp[u8,n4])
 clear e1 e2 e3 e4;go_enter Tryz.func110,Tryz.ntmps110;go_wp2;go_ret;exact⟨rfl,fR.alloc _⟩
def entry(c:UInt8)(t:cC):List UInt8:=UInt8.ofNat (1+t.size)::c::t.data.toList
def aK.noted(s:aK)(c:UInt8)(t:cC)(lv:Value):aK:={s with log:=s.log++entry c t,lv:=lv}
theorem aC.Ip{B:Nat}{w w':World}{b:Nat}{q:Int}{s:aK}(h:aC B w b q s){l:List UInt8}{lv:Value}(ho:w'.ownsRow B 5 1 lv l.length (dO l))(hg:w.grownBy w' s.lv.ownBlock):
 aC B (w'.setCell (Ad b 9) lv) b q {s with log:=l,lv:=lv}:=by
 obtain⟨a1,a2,a3,a4,a5,a6⟩:=h.apart;have hb:w'.heap[b]?=some (s.blk q):=by rw[hg.block b (h.lt b (by simp[foot])).2 (λe=>(a6 b e.symm).1 rfl)];exact h.blk
 have hsb:∀k,lv.ownBlock=some k->k≠b:=λk hk e=>by obtain⟨_,cur,h4⟩:=av ho hk;rw[e,hb]at h4;simp[aK.blk]at h4
 refine⟨?_,?_,?_,?_,?_,?_,h.hb,h.hvb,h.hmb⟩
 .rw[dy w' b 9 _ _ _ hb];rfl
 .rw[de _ _ _ _ (by exact a1),hg.block s.vb (h.lt s.vb (by simp[foot])).2 (λe=>(a6 s.vb e.symm).2.1 rfl)];exact h.aL
 .refine aj h.ss (λk hk=>?_);rw[de _ _ _ _ (a4 k hk).1,hg.block k (h.ss.lt k hk).2 (λe=>(a6 k e.symm).2.2.2.1 hk)]
 .refine h.th.of_block ?_;rw[de _ _ _ _ (by exact a2),hg.block s.mb (h.lt s.mb (by simp[foot])).2 (λe=>(a6 s.mb e.symm).2.2.1 rfl)]
 .refine aj h.ms (λk hk=>?_);rw[de _ _ _ _ (a5 k hk).1,hg.block k (h.ms.lt k hk).2 (λe=>(a6 k e.symm).2.2.2.2 hk)]
 exact aj (w:=w') ho (λk hk=>de _ _ _ _ (hsb k hk))
theorem ah{w:World}{base:Nat}{e:TypeId}{size:Nat}{v:Value}{n:Nat}{xs:List Value}(h:w.ownsRow base e size v n xs):∃a c,v=.slice a n c:=by
 rcases h.2 with⟨rfl,rfl⟩|⟨g,c,cur,rfl,_⟩
 .exact⟨none,0,rfl⟩
 exact⟨_,_,rfl⟩
theorem info5:(Tryz.prog.info? 5).map (λi=>(i.zero,i.size,i.bytes))=some (some (.u 0),1,1):=by kernel_rfl
theorem M9(w:World)(x y:Value):∀j u,[x,y][j]?=some u->(w.alloc (.cells #[x,y] 5)).cell? (((Ad w.heap.size 0):Addr).add j)=some u:=
 World.news_of_block (cs:=#[x,y]) (t:=5) (fr:=(0,0)) (di w _)
theorem qg{w:World}(base:Nat)(ty:TypeId)(g cap n:Nat)(xs:List Value)(hown:w.ownsRow base 5 1 (.slice (some (Ad g 0)) n cap) n xs)(t:cC)(hb:n+t.size≤140737488355328)(hbase:base≤w.heap.size):
 ∃g' cap' w',(Builtin.append_ #[134,9] ty #[.slice (some (Ad g 0)) n cap,.t t]).run Tryz.prog w=.ok (.slice (some (Ad g' 0)) (n+t.size) cap') w'∧w'.ownsRow base 5 1 (.slice (some (Ad g' 0)) (n+t.size) cap') (n+t.size) (xs++dO t.data.toList)∧w.grownBy w' (some g)∧(g'=g∨g'=w.heap.size):=by
 obtain⟨i0,hi,hz0,hz1,hz2⟩:=info_parts info5;obtain⟨v',w',hr,ho,hg,_⟩:=Go.Lib.run_append_own_string (P:=Tryz.prog) w base 134 9 ty 5 i0 Tryz.underlying134 Tryz.underlying9 hi hz0 hz1 hz2 _ n xs hown t (by unfold maxLen;omega) hb hbase;rcases hown.2 with⟨h1,_⟩|⟨g2,cap2,cur,h1,hbg,hgg,hnc,hcm,hcs,htake⟩
 .simp at h1
 simp at h1;obtain⟨rfl,rfl⟩:=h1;have hcs':cur.size=cap:=by simpa using hcs
 by_cases hroom:n+t.size≤cap
 .have hr2:=Go.Lib.run_append_room_string (P:=Tryz.prog) w 134 9 ty 5 i0 Tryz.underlying134 Tryz.underlying9 hi hz1 g n cap cur hgg t hroom (by omega);rw[hr]at hr2;simp only[Result.ok.injEq]at hr2;obtain⟨rfl,_⟩:=hr2;exact⟨_,_,_,hr,ho,hg,Or.inl rfl⟩
 have holds:∀j u,xs[j]?=some u->w.cell? (((Ad g 0):Addr).add j)=some u:=hown.cells (g:=g) rfl;have hr2:=Go.Lib.run_append_grow_string (P:=Tryz.prog) w 134 9 ty 5 i0 (.u 0) Tryz.underlying134 Tryz.underlying9 hi hz0 (Ad g 0) n cap xs (by rw[hz1];exact hown.1) holds t (by omega) (by omega) (by rw[hz2];exact growslice_fits (by omega) (by omega));rw[hr]at hr2;simp only[Result.ok.injEq]at hr2;obtain⟨rfl,_⟩:=hr2;exact⟨_,_,_,hr,ho,hg,Or.inr rfl⟩
theorem wpList_append_text{ops:Array Oper}{rest:List Oper}{o:Oper}{a:Act}{Q:Exit->Act->World->Prop}(w:World)(hgd:o.guard=none)(sl x:Operand)
 (ho:o.op=.call {callee:=.builtin .append,args:=#[sl,x],argTypes:=#[134,9]})
 (base g cap n:Nat)(xs:List Value)(hs:a.eval sl=.slice (some (Ad g 0)) n cap)(hown:w.ownsRow base 5 1 (.slice (some (Ad g 0)) n cap) n xs)(t:cC)(hx:a.eval x=.t t)
 (hb:n+t.size≤140737488355328)(hbase:base≤w.heap.size)
 (h:∀g' cap' w',w'.ownsRow base 5 1 (.slice (some (Ad g' 0)) (n+t.size) cap') (n+t.size) (xs++dO t.data.toList)->w.grownBy w' (some g)->(g'=g∨g'=w.heap.size)->wpList Tryz.prog ops Q rest (a.put o.dst (.slice (some (Ad g' 0)) (n+t.size) cap')) w'):wpList Tryz.prog ops Q (o::rest) a w:=by
 refine wpList_plain hgd λK hK=>?_;obtain⟨g',cap',w',hr,h2,h3,h4⟩:=qg base o.type g cap n xs hown t hb hbase;unfold Oper.wp execOp;simp only[ho,resolve,invoke,builtin,Sem.run_bind,Sem.run_pure,Result.andThen_ok,List.map_toArray,List.map_cons,List.map_nil,hs,hx,hr];exact hK _ _ (h g' cap' w' h2 h3 h4)
theorem Iq{B b:Nat}{q:Int}{s:aK}{w w5:World}{l:List UInt8}{lv:Value}{o:Obj}(h:aC B w b q s)(ho:w5.ownsRow B 5 1 lv (s.log.length+l.length) (dO s.log++dO l))(hg:(w.alloc o).grownBy w5 s.lv.ownBlock):
 aC B (w5.setCell (Ad b 9) lv) b q {s with log:=s.log++l,lv:=lv}∧Fr (foot b s) w (w5.setCell (Ad b 9) lv)∧(w5.setCell (Ad b 9) lv).ownsRow B 5 1 lv (s.log.length+l.length) (dO (s.log++l))∧(∀k,lv.ownBlock=some k->k≠b):=by
 have R1:=h.aA ((Fr.refl [] w).alloc o);have R2:=R1.Ip (l:=s.log++l) (by rw[dE];simpa[dO]using ho) hg;have L2:=R2.lg;rw[dE]at L2;refine⟨R2,?_,L2,λk hk=>(R2.apart.2.2.2.2.2 k hk).1⟩;refine Fr.setCell ?_ _ (Or.inl (by simp[foot]));exact((Fr.refl _ w).alloc o).grown hg (λk hk=>Or.inl (by simp[foot,hk]))
theorem gD(B b:Nat)(q:Int)(s:aK)(c:UInt8)(t:cC)(w:World)(h:aC B w b q s)(ht:t.size≤1000)(hl:s.log.length≤140000000000000):
 Rc 113 #[.p b,.u (c.toNat:Int),.t t] w (.tuple #[]) λw'=>∃lv,aC B w' b q (s.noted c t lv)∧Fr (foot b s) w w'∧(∀k,lv.ownBlock=some k->s.lv.ownBlock=some k∨w.heap.size≤k):=by
 obtain⟨i0,hi,hz0,hz1,hz2⟩:=info_parts info5;obtain⟨c0,c2,c3,c4,c5,c6,c7,c8,c9⟩:=h.cells;have f9:=h.frozen 9;have lb:b<w.heap.size:=dm _ _ c0;have hBw:B≤w.heap.size:=by have:=h.hb;omega
 obtain⟨ao,cap,hlv⟩:=ah h.lg;have HO:=Hd h.lg;have hne:s.lv.ownBlock≠some b:=λe=>(h.apart.2.2.2.2.2 b e).1 rfl;have HR:=Hd h;rw[hlv]at HO hne c9;obtain⟨m,hm⟩:=eX t.size;have e1:(1+(m:Int))%256=((UInt8.ofNat (1+m)).toNat:Int):=by rw[UInt8.toNat_ofNat'];omega
 obtain⟨n,hn⟩:=eX s.log.length;rw[hn]at c9 HO hl hne hlv;clear h c3 c4 c6;obtain⟨y,hy⟩:=eX (UInt8.ofNat (1+m));rw[hy]at e1;have HE:=Hj3 hy hm hn;clear hy hn;go_enter Tryz.func113,Tryz.ntmps113;have zM:=M9 w (.u (y.toNat:Int)) (.u (c.toNat:Int));go_wp2_with (first
  |(at_builtin;refine wpList_append_lies _ rfl _ _ 134 rfl B 5 i0 _ 1 1 Tryz.underlying134 hi hz0 hz1 hz2 rfl (by omega) (.slice ao n cap) n (dO s.log) rfl (HO.o.alloc _) (Ad w.heap.size 0) 2 2 [.u (y.toNat:Int),.u (c.toNat:Int)] rfl rfl zM (by simp[Value.oneCell']) (by omega) (by unfold maxLen;omega) (by omega) (by simp;omega) (w.heap.size+1) (by simp) ?_;intro g5 cap5 w5 hown5 bY TW Xy;have c95:=(bY.cell_far (Ad b 9) (by simp;omega) (Ne.symm hne)).trans ((du (ei w _ b lb)).trans c9);have f5:w5.frozen? (Ad b 9)=false:=(bY.frozen_far (Ad b 9) (by simp;omega) (Ne.symm hne)).trans ((World.frozen?_of_block (ei w _ b lb)).trans f9);have HM:=Iq (l:=[y,c]) HR.o (by rw[HE.o.2.2];exact hown5) (by rw[hlv];exact bY);have Xz:=HM.1.cells.2.2.2.2.2.2.2.2;have f96:=HM.1.frozen 9;obtain⟨w6,QI⟩:=eX (w5.setCell (Ad b 9) (.slice (some (Ad g5 0)) (n+2) cap5));rw[QI]at HM Xz f96;have Na:Hid (aC B w6 b q {s with log:=s.log++[y,c],lv:=.slice (some (Ad g5 0)) (n+2) cap5}∧Fr (foot b s) w w6∧(s.lv.ownBlock=some g5∨w.heap.size≤g5)∧w6.ownsRow B 5 1 (.slice (some (Ad g5 0)) (n+2) cap5) (n+2) (dO (s.log++[y,c]))∧g5≠b∧B≤w6.heap.size):=⟨HM.1,HM.2.1,by rw[hlv];exact TW.imp_right (λh=>by omega),by have:=HM.2.2.1;rw[HE.o.2.2]at this;exact this,HM.2.2.2 g5 rfl,eJ hBw HM.2.1.size⟩;clear HM hown5 bY TW Xy HO zM)
  |(at_builtin;refine wpList_append_text _ rfl _ _ rfl B g5 cap5 (n+2) (dO (s.log++[y,c])) rfl Na.o.2.2.2.1 t rfl (by omega) Na.o.2.2.2.2.2 ?_;intro g7 Lj w7 jY gX XA;have TY:b<w6.heap.size:=dm _ _ Xz;have T9:g5≠b:=Na.o.2.2.2.2.1;have f7:w7.frozen? (Ad b 9)=false:=(gX.frozen_far (Ad b 9) (by simpa using TY) (by simpa using Ne.symm T9)).trans f96;have c97:cD w7 b 9 (.slice (some (Ad g5 0)) (n+2) cap5):=(gX.cell_far (Ad b 9) (by simpa using TY) (by simpa using Ne.symm T9)).trans Xz;clear QI))
 subst hm;go_end0;refine⟨rfl,.slice (some (Ad g7 0)) (n+2+t.size) Lj,?_,?_,?_⟩
 .have:=Na.o.1.Ip (l:=s.log++[y,c]++t.data.toList) (lv:=.slice (some (Ad g7 0)) (n+2+t.size) Lj) (w':=w7) (by
   have e:(s.log++[y,c]++t.data.toList).length=n+2+t.size:=by rw[<-HE.o.2.2];simp;omega
   rw[e];simpa[dO]using jY) gX
  have e2:s.noted c t (.slice (some (Ad g7 0)) (n+2+t.size) Lj)={s with log:=s.log++[y,c]++t.data.toList,lv:=.slice (some (Ad g7 0)) (n+2+t.size) Lj}:=by unfold aK.noted entry;rw[HE.o.2.1,HE.o.1];simp
  rw[e2];exact this
 .refine Fr.setCell ?_ _ (Or.inl (by simp[foot]));refine Na.o.2.1.grown gX (λk hk=>?_);have hk':g5=k:=by simpa using hk
  subst hk';exact Na.o.2.2.1.imp_left (λh=>by simp[foot,h])
 intro k hk;have hk':g7=k:=by simpa[Value.ownBlock]using hk
 subst hk';have hs6:=Na.o.2.1.size;rcases XA with e|e
 .rw[e,<-hlv];exact Na.o.2.2.1
 right;omega
def bq(l:List UInt8):Nat:=l.foldl (λv x=>v*256+x.toNat) 0
theorem pG(l:List UInt8)(k:Nat)(h:k<l.length):bq (l.take (k+1))=bq (l.take k)*256+l[k].toNat:=by unfold bq;rw[ew h,List.foldl_append,List.foldl_cons,List.foldl_nil]
theorem kM(l:List UInt8):∀k,k≤l.length->bq (l.take k)<256^k
 |0,_=>by simp[bq]
 |k+1,h=>by have ih:=kM l k (by omega);have hx:(l[k]'(by omega)).toNat<256:=UInt8.toNat_lt _;rw[pG l k (by omega),Nat.pow_succ];omega
theorem ofInt64(z:Nat)(h:z<4294967296):(BitVec.ofInt 64 (z:Int)).toNat=z:=by rw[BitVec.ofInt_natCast,BitVec.toNat_ofNat];exact Nat.mod_eq_of_lt (hI h (by decide))
theorem sO(z:Nat)(h:z<4294967296):IntKind.i64.wrap (z:Int)=(z:Int):=by simp[IntKind.wrap,IntKind.bits,IntKind.signed];omega
theorem LQ(v x:Nat)(hv:v<16777216)(hx:x<256):bits .or .i64 ((v:Int)*256) (x:Int)=((v*256+x:Nat):Int):=by
 have hl:v*256<4294967296:=by omega
 have hlt:v*256+x<4294967296:=by omega
 have e2:(v:Int)*256=((v*256:Nat):Int):=by omega
 have e:v*256|||x=v*256+x:=by have:=Nat.shiftLeft_add_eq_or_of_lt (b:=x) (i:=8) (by omega) v;rw[Nat.shiftLeft_eq]at this;exact this.symm
 rw[e2];generalize v*256=z at hl hlt e;show IntKind.i64.wrap ((BitVec.ofInt 64 (z:Int)|||BitVec.ofInt 64 (x:Int)).toNat:Int)=_;rw[BitVec.toNat_or,ofInt64 z hl,ofInt64 x (by omega),e];exact sO _ hlt
theorem uR(t:cC)(w:World)(ht:t.size≤4):
 Rc 164 #[.t t] w (.i (bq t.data.toList:Int)) λw'=>w'=w:=by
 obtain⟨n,hn⟩:=eX t.size;have hlen:t.data.toList.length=n:=by rw[fk];exact hn
 go_enter Tryz.func164,Tryz.ntmps164;go_wp2;go_loop [3,7] (λc i=>∃(k:Nat),k≤n∧i=.i k∧c=.i (bq (t.data.toList.take k):Int)) (λ_ i=>n-(intOf i).toNat)
 case atStart=>exact⟨0,dC _,rfl,rfl⟩
 obtain⟨k,hk,rfl,rfl⟩:=hrel;by_cases hlt:k<n
 .have hltz:(k:Int)<(n:Int):=by omega
  have hv:=kM t.data.toList k (by omega);have hv2:bq (t.data.toList.take k)<16777216:=by have:256^k≤256^3:=Nat.pow_le_pow_right (by omega) (by omega);omega
  have hx:t[k].toNat<256:=UInt8.toNat_lt _;have hs:bq (t.data.toList.take (k+1))=bq (t.data.toList.take k)*256+t[k].toNat:=by rw[pG _ _ (by omega)];rfl
  have hb:=LQ (bq (t.data.toList.take k)) t[k].toNat hv2 hx;rw[<-hs]at hb;obtain⟨V,hV⟩:=eX (bq (t.data.toList.take k));rw[hV]at hb hv2⊢;have hw:IntKind.i64.wrap ((V:Int)*256)=(V:Int)*256:=by simp[IntKind.wrap,IntKind.bits,IntKind.signed];omega
  clear hs hv hV;go_wp2;go_round
  case rel=>exact⟨k+1,by omega,by go_num,by rw[<-hb]⟩
  simp[intOf];omega
 have hkk:k=n:=by omega
 subst hkk;have e:t.data.toList.take k=t.data.toList:=eL (by omega);rw[e];go_wp2;go_ret;exact⟨rfl,rfl⟩
def dU(t:cC)(n:Nat):cC:=if t.size<n then⟨#[]⟩else t.extract 0 n
def oH(t:cC)(n:Nat):cC:=if t.size<n then⟨#[]⟩else t.extract n t.size
def wG(t:cC)(sh:Bool)(n:Nat):Bool:=if t.size<n then true else sh
def gQ(w:World)(rb:Nat)(t:cC)(sh:Bool):Prop:=w.heap[rb]?=some (.cells #[.t t,.bool sh] 252 (0,0))
theorem gQ.cells{w:World}{rb:Nat}{t:cC}{sh:Bool}(h:gQ w rb t sh):w.cell? (Ad rb 0)=some (.t t)∧w.cell? (Ad rb 1)=some (.bool sh)∧w.frozen? (Ad rb 0)=false∧w.frozen? (Ad rb 1)=false:=by unfold gQ at h;exact⟨ce h rfl,ce h rfl,ay h _,ay h _⟩
theorem jO(t:cC)(w:World):
 Rc 128 #[.t t] w (.p w.heap.size) λw'=>gQ w' w.heap.size t false∧Fr [] w w':=by
 go_enter Tryz.func128,Tryz.ntmps128;go_wp2;go_ret;exact⟨rfl,di w _,fR.alloc _⟩
theorem zf(rb:Nat)(t:cC)(sh:Bool)(w:World)(h:gQ w rb t sh):
 Rc 133 #[.p rb] w (.i t.size) λw'=>w'=w:=by
 obtain⟨c0,c1,f0,f1⟩:=h.cells;clear h;go_enter Tryz.func133,Tryz.ntmps133;go_wp2;go_ret;exact⟨rfl,rfl⟩
theorem pq(rb:Nat)(t:cC)(sh:Bool)(w:World)(h:gQ w rb t sh):
 Rc 131 #[.p rb] w (.bool (decide (t.size=0)&&!sh)) λw'=>w'=w:=by
 obtain⟨c0,c1,f0,f1⟩:=h.cells;have Ya:=zf rb t sh w h;clear h;obtain⟨n,hn⟩:=eX t.size;rw[hn]at Ya⊢;clear hn;by_cases h0:n=0
 .subst h0;go_enter Tryz.func131,Tryz.ntmps131;go_wp2_with (go_at_call 133;refine Ya.mono ?_;rintro e w' ⟨rfl,hw'⟩;subst w');go_ret;exact⟨by simp,rfl⟩
 have h1:¬((n:Int)=0):=by omega
 have h2:((n:Int)==0)=false:=by simpa using h1
 go_enter Tryz.func131,Tryz.ntmps131;go_wp2_with (go_at_call 133;refine Ya.mono ?_;rintro e w' ⟨rfl,hw'⟩;subst w');go_ret;exact⟨by simp[h0],rfl⟩
theorem mK(rb:Nat)(t:cC)(sh:Bool)(n:Nat)(w:World)(h:gQ w rb t sh)(hn:n≤3000000)(_ht:t.size≤1000000000):
 Rc 132 #[.p rb,.i n] w (.t (dU t n)) λw'=>gQ w' rb (oH t n) (wG t sh n)∧Fr [rb] w w':=by
 obtain⟨c0,c1,f0,f1⟩:=h.cells;have H:=Hd h;unfold dU oH wG;by_cases hlt:t.size<n
 .rw[if_pos hlt,if_pos hlt,if_pos hlt];clear h;go_enter Tryz.func132,Tryz.ntmps132;go_wp2;go_ret;refine⟨rfl,?_,(fR.setCell _ (Or.inl (by simp))).setCell _ (Or.inl (by simp))⟩;have h1:=dy w rb 0 _ _ (.t ⟨#[]⟩) H.o;have h2:=dy _ rb 1 _ _ (.bool true) h1;unfold gQ;rw[h2];rfl
 rw[if_neg hlt,if_neg hlt,if_neg hlt];clear h;go_enter Tryz.func132,Tryz.ntmps132;go_wp2;go_ret;refine⟨rfl,?_,fR.setCell _ (Or.inl (by simp))⟩;have h1:=dy w rb 0 _ _ (.t (t.extract n t.size)) H.o;unfold gQ;rw[h1];rfl
theorem gK(t:cC)(n:Nat):(dU t n).size≤n:=by
 unfold dU;split
 .exact dC _
 rw[eo];omega
theorem ze(t:cC)(n:Nat):(oH t n).size≤t.size:=by
 unfold oH;split
 .exact dC _
 rw[eo];omega
theorem lY(rb:Nat)(t:cC)(sh:Bool)(w:World)(h:gQ w rb t sh)(ht:t.size≤1000000000):
 Rc 130 #[.p rb] w (.i (bq (dU t 4).data.toList:Int)) λw'=>gQ w' rb (oH t 4) (wG t sh 4)∧Fr [rb] w w':=by
 have HT:=Hd (mK rb t sh 4 w h (by omega) ht);have HV:=Hd λW=>uR (dU t 4) W (gK t 4);obtain⟨r,hr⟩:=eX (dU t 4);rw[hr]at HT HV⊢;clear h hr;go_enter Tryz.func130,Tryz.ntmps130;go_wp2_with (first
  |(go_at_call 132;refine HT.o.mono ?_;rintro e w2 ⟨rfl,r2,f2⟩)
  |(go_at_call 164;refine(HV.o _).mono ?_;rintro e w' ⟨rfl,hw'⟩;subst w'))
 go_ret;exact⟨rfl,r2,f2⟩
theorem uP(rb:Nat)(t:cC)(sh:Bool)(w:World)(h:gQ w rb t sh)(ht:t.size≤1000000000):
 Rc 129 #[.p rb] w (.i (bq (dU t 1).data.toList:Int)) λw'=>gQ w' rb (oH t 1) (wG t sh 1)∧Fr [rb] w w':=by
 have HT:=Hd (mK rb t sh 1 w h (by omega) ht);have HV:=Hd λW=>uR (dU t 1) W (by have:=gK t 1;omega);obtain⟨r,hr⟩:=eX (dU t 1);rw[hr]at HT HV⊢;clear h hr;go_enter Tryz.func129,Tryz.ntmps129;go_wp2_with (first
  |(go_at_call 132;refine HT.o.mono ?_;rintro e w2 ⟨rfl,r2,f2⟩)
  |(go_at_call 164;refine(HV.o _).mono ?_;rintro e w' ⟨rfl,hw'⟩;subst w'))
 go_ret;exact⟨rfl,r2,f2⟩
def Dy(c:Nat)(x:UInt8):Nat:=(c^^^x.toNat)*16777619%4294967296
def zK(l:List UInt8):Nat:=l.foldl Dy 2166136261
def kE(l:List UInt8):B4:=n4 (zK l:Int)
theorem xL(l:List UInt8)(k:Nat)(h:k<l.length):zK (l.take (k+1))=Dy (zK (l.take k)) l[k]:=by unfold zK;rw[ew h,List.foldl_append,List.foldl_cons,List.foldl_nil]
theorem BR:∀(l:List UInt8)(c:Nat),c<4294967296->l.foldl Dy c<4294967296
 |[],_,h=>h
 |x::r,c,_=>by rw[List.foldl_cons];exact BR r _ (by unfold Dy;omega)
theorem vH(l:List UInt8):zK l<4294967296:=BR l _ (by omega)
theorem oM(a b:Nat)(ha:a<4294967296)(hb:b<4294967296):bits .xor .u32 (a:Int) (b:Int)=((a^^^b:Nat):Int):=by
 have hx:a^^^b<2^32:=Nat.xor_lt_two_pow (by omega) (by omega);have h1:(BitVec.ofInt 32 (a:Int)).toNat=a:=by rw[BitVec.ofInt_natCast,BitVec.toNat_ofNat];exact Nat.mod_eq_of_lt (by omega)
 have h2:(BitVec.ofInt 32 (b:Int)).toNat=b:=by rw[BitVec.ofInt_natCast,BitVec.toNat_ofNat];exact Nat.mod_eq_of_lt (by omega)
 show IntKind.u32.wrap ((BitVec.ofInt 32 (a:Int)^^^BitVec.ofInt 32 (b:Int)).toNat:Int)=_;rw[BitVec.toNat_xor,h1,h2];simp[IntKind.wrap,IntKind.bits,IntKind.signed];omega
theorem FY(t:cC)(k:Nat)(h:k<t.size):bits .xor .u32 (zK (t.data.toList.take k):Int) ((t[k].toNat:Int)%4294967296)*16777619%4294967296=(zK (t.data.toList.take (k+1)):Int):=by
 have hl:k<t.data.toList.length:=by rw[fk];exact h
 have hx:t[k].toNat<256:=t[k].toNat_lt;rw[xL _ _ hl,show((t[k].toNat:Int)%4294967296)=((t[k].toNat:Nat):Int) by omega,oM _ _ (vH _) (by omega)];unfold Dy;have e:t.data.toList[k]=t[k]:=by rw[Array.getElem_toList];rfl
 rw[e];omega
theorem jF(t:cC)(w:World)(ht:t.size≤2000000):
 Rc 111 #[.t t] w (.t (kE t.data.toList).ba) λw'=>Fr [] w w':=by
 obtain⟨n,hn⟩:=eX t.size;go_enter Tryz.func111,Tryz.ntmps111;go_wp2;go_loop [3,7] (λc i=>∃(k:Nat),k≤n∧i=.i k∧c=.int .u32 (zK (t.data.toList.take k):Int)) (λ_ i=>n-(intOf i).toNat)
 case atStart=>exact⟨0,dC _,rfl,rfl⟩
 obtain⟨k,hk,rfl,rfl⟩:=hrel;by_cases hlt:k<n
 .have hltz:(k:Int)<(n:Int):=by omega
  have hs:=FY t k (by omega);go_wp2;go_round
  case rel=>exact⟨k+1,by omega,by go_num,by rw[<-hs]⟩
  simp[intOf];omega
 have hkk:k=n:=by omega
 subst hkk;have e:=eL (by rw[fk];exact Nat.le_of_eq hn);rw[e];have HU:Hid (∀W,Rc 110 #[.i (zK t.data.toList:Int)] W (.t (kE t.data.toList).ba) λw'=>Fr [] W w'):=λW=>bf (zK t.data.toList:Int) W;have hf:=vH t.data.toList;obtain⟨f,Ro⟩:=eX (zK t.data.toList);rw[Ro]at hf HU⊢;have hw:IntKind.i64.wrap (f:Int)=(f:Int):=by simp[IntKind.wrap,IntKind.bits,IntKind.signed];omega
 have hw2:wrap64 (f:Int)=(f:Int):=by unfold wrap64;omega
 go_wp2_with (go_at_call 110;(try rw[hw2]);refine(HU.o _).mono ?_;rintro e w' ⟨rfl,f5⟩);go_ret;exact⟨rfl,f5⟩
end Go.Proofs.YtjceeemlilnplaaGreatDoor
