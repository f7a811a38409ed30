import Derived.Test.YtjceeemlilnplaaGreatDoorM30
import Derived.Test.YtjceeemlilnplaaGreatDoorM44
import Derived.Test.YtjceeemlilnplaaGreatDoorM04
import Derived.Laws.ResultCell
import Derived.Test.YtjceeemlilnplaaGreatDoorM37
set_option maxRecDepth 100000
set_option maxHeartbeats 12800000
set_option linter.all false
namespace Go.Proofs.YtjceeemlilnplaaGreatDoor
open Go.RowKit Go.Maps Go.MuLone
def gP(t:cC):Int:=Gp.en (Gp.Pl.rp 5 (Gp.dl t))
def bJ(t:cC):List (Int×Int):=(Gp.Pl.rp 5 (Gp.dl t)).getD []
theorem MV(most:Int):∀(l:List UInt8)(n:Int),0≤n->n≤(Gp.Pl.qW most l n).1
 |[],n,_=>gm _
 |c::l,n,h=>by
  unfold Gp.Pl.qW;split
  .rename_i hc;have h1:0≤Gp.Pl.dv c:=by have:=hc.1;unfold Gp.Pl.Rv at this;simp at this;unfold Gp.Pl.dv;omega
   have:=MV most l (n*10+Gp.Pl.dv c) (by omega);show n≤(Gp.Pl.qW most l (n*10+Gp.Pl.dv c)).1;omega
  exact gm _
theorem Hr{most:Int}{t:List UInt8}{n:Int}{k:Nat}(h:Gp.Pl.dg most t=some (n,k)):1≤n∧n≤most:=by
 unfold Gp.Pl.dg at h;split at h
 .cases h
 rename_i hc;have e:Gp.Pl.qW most t 0=(n,k):=by simpa using h
 rw[e]at hc;simp only[not_or]at hc;refine⟨?_,by omega⟩
 match t,e,hc with
 |[],e,hc=>unfold Gp.Pl.qW at e;simp at e;omega
 |c::l,e,hc=>
  unfold Gp.Pl.qW at e;split at e
  .rename_i h1;have h2:Gp.Pl.Rv c=true:=h1.1;have h3:c≠48:=by simpa using hc.2.1
   have h4:c.toNat≠48:=λe=>h3 (UInt8.toNat_inj.1 e);unfold Gp.Pl.Rv at h2;simp at h2;have h5:=MV most l (0*10+Gp.Pl.dv c) (by unfold Gp.Pl.dv;omega);simp only[Prod.mk.injEq]at e;rw[e.1]at h5;unfold Gp.Pl.dv at h5;omega
  simp at e;omega
theorem OH{t rest:List UInt8}{r:Int×Int}(h:Gp.Pl.one t=some (r,rest)):Kp.Vp r=true:=by
 unfold Gp.Pl.one at h;split at h
 .cases h
 rename_i c k h1;split at h
 .cases h
 split at h
 .split at h
  .cases h
  rename_i n k2 h2;simp only[ip,Prod.mk.injEq]at h;have a:=Hr h1;have b:=Hr h2;rw[<-h.1];unfold Kp.Vp;simp;omega
 cases h
theorem MX:∀(f:Nat)(t:List UInt8)(rs:List (Int×Int)),Gp.Pl.rp (f+1) t=some rs->rs.length≤f∧rs.all Kp.Vp=true
 |f,t,rs,h=>by
  unfold Gp.Pl.rp at h;split at h
  .cases h
  rename_i r rest h1;have hr:=OH h1;by_cases e:f=0
  .rw[if_pos e]at h;cases h
  rw[if_neg e]at h;split at h
  .simp only[ip]at h;subst h;simp[hr];omega
  rename_i b t4;split at h
  .match f,e,h with
   |f+1,_,h=>
    obtain⟨rs',h2,h3⟩:=Option.map_eq_some_iff.1 h;have h4:=MX f t4 rs' h2;subst h3;simp[hr,h4.2];omega
  cases h
theorem Cn(t:cC):Kp.oO (bJ t)=true:=by
 unfold bJ;cases h:Gp.Pl.rp 5 (Gp.dl t)with
 |none=>rfl
 |some rs=>
  have:=MX 4 _ _ h;unfold Kp.oO;simp only[Option.getD_some];rw[this.2];simp;omega
theorem lT(t:cC):gP t=0∨gP t=2:=by
 unfold gP Gp.en;split
 .exact Or.inl rfl
 exact Or.inr rfl
abbrev nT(id bl last:Int):Prop:=((1≤id∧id≤999)∧1≤bl∧bl≤16)∧1≤last∧last≤12
theorem yJ(id:Int)(n:Nat)(h1:1≤id∧id≤999)(h2:1≤n∧n≤16):Ok 0 (ak.fresh id n 16):=⟨newS id n 0 0 vn,0,dK.start id n 0 0 vn h1 h2,eh _,by simp[ak.fresh,kL],by simp[ak.fresh],by simp[ak.fresh]⟩
theorem MZ(id:Int)(n:Nat)(w:World)(h1:1≤id∧id≤999)(h2:1≤n∧n≤16):Cl 60 #[.i id,.i n] w λe w'=>∃b F,e=.returned (.tuple #[.p b,.i 0])∧Sk w.heap.size w' b F (ak.fresh id n 16) 0∧Fr [] w w':=by refine(Nw id n w h1 h2).mono ?_;rintro e w' ⟨b,vb,mb,lv,he,rp,f⟩;exact⟨b,_,he,⟨⟨newS id n vb mb lv,rp,dK.start id n vb mb lv h1 h2,rfl⟩,yJ id n h1 h2⟩,f⟩
theorem Ht(id:Int)(n:Nat)(w:World)(h1:1≤id∧id≤999)(h2:1≤n∧n≤16):Cl 33 #[.i id,.i n] w λe w'=>∃b F,e=.returned (.tuple #[.p b,.i 0])∧iw w.heap.size w' b F (ak.fresh id n 16) 0∧Fr [] w w':=by refine(KX id n w h1 h2).mono ?_;rintro e w' ⟨b,he,rp,f⟩;exact⟨b,_,he,⟨⟨_,RQ.refl _,rp,rfl⟩,yJ id n h1 h2⟩,f⟩
theorem Co(t:cC)(ht:t.size≤2000000)(w:World):Cl 61 #[.t t] w λe w'=>∃ra rc,e=.returned (.tuple #[.slice ra (bJ t).length rc,.i (gP t)])∧w'.ownsRow w.heap.size 172 2 (.slice ra (bJ t).length rc) (bJ t).length (GQ (bJ t))∧Fr [] w w':=by refine(Gp.OI t w (by omega)).mono ?_;rintro e w' ⟨v,he,ho,f⟩;obtain⟨ra,rc,rfl⟩:=ah ho;exact⟨ra,rc,he,ho,Below.fr f⟩
theorem qD(t:cC)(ht:t.size≤2000000)(w:World):Cl 34 #[.t t] w λe w'=>∃ra rc,e=.returned (.tuple #[.slice ra (bJ t).length rc,.i (gP t)])∧w'.ownsRow w.heap.size 172 2 (.slice ra (bJ t).length rc) (bJ t).length (GQ (bJ t))∧Fr [] w w':=by refine(Gp.OJ t w (by omega)).mono ?_;rintro e w' ⟨v,he,ho,f⟩;obtain⟨ra,rc,rfl⟩:=ah ho;exact⟨ra,rc,he,ho,Below.fr f⟩
theorem Hu{id bl:Int}(h:¬((1≤id∧id≤999)∧1≤bl∧bl≤16)):((decide (id<1)||decide (999<id))||decide (bl<1))=true∨16<bl:=by
 by_cases h9:16<bl
 .exact Or.inr h9
 left;simp;omega
theorem KY(id bl:Int)(w:World):∃z:Int,(¬((1≤id∧id≤999)∧1≤bl∧bl≤16)∧z=1∨((1≤id∧id≤999)∧1≤bl∧bl≤16)∧z=0)∧Cl 60 #[.i id,.i bl] w λe w'=>∃x,e=.returned (.tuple #[.pointer x,.i z])∧Fr [] w w':=by
 by_cases h:(1≤id∧id≤999)∧1≤bl∧bl≤16
 .refine⟨0,Or.inr ⟨h,rfl⟩,?_⟩;have h9:=MZ id bl.toNat w h.1 (by omega);rw[show((bl.toNat:Nat):Int)=bl by omega]at h9;refine h9.mono ?_;rintro e w' ⟨b,F,he,_,f⟩;exact⟨_,he,f⟩
 refine⟨1,Or.inl ⟨h,rfl⟩,(KZ id bl w (Hu h)).mono ?_⟩;rintro e w' ⟨he,rfl⟩;exact⟨_,he,fR⟩
theorem yK(id bl:Int)(w:World):∃z:Int,(¬((1≤id∧id≤999)∧1≤bl∧bl≤16)∧z=1∨((1≤id∧id≤999)∧1≤bl∧bl≤16)∧z=0)∧Cl 33 #[.i id,.i bl] w λe w'=>∃x,e=.returned (.tuple #[.pointer x,.i z])∧Fr [] w w':=by
 by_cases h:(1≤id∧id≤999)∧1≤bl∧bl≤16
 .refine⟨0,Or.inr ⟨h,rfl⟩,?_⟩;have h9:=Ht id bl.toNat w h.1 (by omega);rw[show((bl.toNat:Nat):Int)=bl by omega]at h9;refine h9.mono ?_;rintro e w' ⟨b,F,he,_,f⟩;exact⟨_,he,f⟩
 refine⟨1,Or.inl ⟨h,rfl⟩,(Hw id bl w (Hu h)).mono ?_⟩;rintro e w' ⟨he,rfl⟩;exact⟨_,he,fR⟩
def mQ(id bl last:Int)(t:cC):Int:=if nT id bl last then gP t else 1
theorem mW(id bl:Int)(t:cC)(last:Int)(w:World)(ht:t.size≤2000000)(h:mQ id bl last t≠0):
 Rc 32 #[.i id,.i bl,.t t,.i last] w (.tuple #[.agg #[.pointer none,.i 0,.slice none 0 0],.i (mQ id bl last t)]) λw'=>Fr [] w w':=by
 obtain⟨w0,hw0⟩:=eX (w.alloc (.cells #[.pointer none,.i 0,.slice none 0 0] 95));obtain⟨rb,hrb⟩:=eX w.heap.size;have n0:w0.heap[rb]?=some (.cells #[.pointer none,.i 0,.slice none 0 0] 95 (0,0)):=by rw[<-hw0,<-hrb];exact di w _
 have H0:Hid (Fr [] w w0∧w0.heap[rb]?=some (.cells #[.pointer none,.i 0,.slice none 0 0] 95 (0,0))∧w.heap.size≤rb):=⟨by rw[<-hw0];exact fR.alloc _,n0,by omega⟩;have HB:Hid (∀W,Fr [] w0 W->Fr [] w W∧(W.cell? (Ad rb 0)=some (.pointer none)∧W.cell? (Ad rb 1)=some (.i 0)∧W.cell? (Ad rb 2)=some (.slice none 0 0))∧W.frozen? (Ad rb 0)=false∧W.frozen? (Ad rb 1)=false∧W.frozen? (Ad rb 2)=false):=λW hW=>by have n1:=(hW.block rb (cY.1 H0.o.2.1).1 (by simp)).trans H0.o.2.1;exact⟨H0.o.1.trans hW (by simp),⟨ce n1 rfl,ce n1 rfl,ce n1 rfl⟩,ay n1 _,ay n1 _,ay n1 _⟩
 obtain⟨z,hz,hN⟩:=KY id bl w0;have HN:=Hd hN;have ZC:Hid (∀W,Fr [] w W->Fr [] w (((W.setCell (Ad rb 0) (.pointer none)).setCell (Ad rb 1) (.i 0)).setCell (Ad rb 2) (.slice none 0 0))):=λW hW=>((hW.setCell _ (Or.inr H0.o.2.2)).setCell _ (Or.inr H0.o.2.2)).setCell _ (Or.inr H0.o.2.2);by_cases hk:nT id bl last
 .have e2:mQ id bl last t=2:=by have h1:mQ id bl last t=gP t:=if_pos hk;rw[h1]at h⊢;exact(lT t).resolve_left h
  have hg2:gP t=2:=by rw[<-e2];exact(if_pos hk).symm
  have HP:Hid (∀W,Cl 61 #[.t t] W λe w'=>∃ra rc,e=.returned (.tuple #[.slice ra (bJ t).length rc,.i 2])∧Fr [] W w'):=λW=>by refine(Co t ht W).mono ?_;rintro e w' ⟨ra,rc,he,_,f⟩;rw[hg2]at he;exact⟨ra,rc,he,f⟩
  have hz0:z=0:=by rcases hz with hz|hz;exact absurd hk.1 hz.1;exact hz.2
  subst hz0;have l1:¬last<1:=by have:=hk.2;omega
  have l2:¬12<last:=by have:=hk.2;omega
  rw[e2];have dV:=hw0;clear h hk e2 hg2 hz hN n0 hw0;go_enter Tryz.func32,Tryz.ntmps32;go_wp2_with (first
   |(go_at_call 61;refine(HP.o _).mono ?_;rintro e w2 ⟨ra,rc,rfl,f2⟩;have F2:=Hd (F1.o.trans f2 (by simp));obtain⟨F3,⟨q0,q1,q2⟩,z0,z1,z2⟩:=HB.o w2 F2.o;have F3:=Hd F3;clear f2)
   |(go_at_call 60;refine HN.o.mono ?_;rintro e w1 ⟨x,rfl,f1⟩;have F1:=Hd f1;clear f1))
  refine ez (v:=.tuple #[.agg #[.pointer none,.i 0,.slice none 0 0],.i 2]) ?_ rfl ⟨rfl,?_⟩
  .rw[results_cell_tmp rfl];go_simp
  exact ZC.o _ F3.o
 have e1:mQ id bl last t=1:=if_neg hk;rw[e1];have hc:(z=1)∨(z=0∧last<1)∨(z=0∧¬last<1∧12<last):=by
  rcases hz with hz|hz
  .exact Or.inl hz.2
  by_cases h1:last<1
  .exact Or.inr (Or.inl ⟨hz.2,h1⟩)
  refine Or.inr (Or.inr ⟨hz.2,h1,?_⟩);by_cases h2:12<last
  .exact h2
  exact absurd ⟨hz.1,by omega,by omega⟩ hk
 have dV:=hw0;clear h hk e1 hz hN n0 hw0;rcases hc with rfl|⟨rfl,l1⟩|⟨rfl,l1,l2⟩;all_goals
  go_enter Tryz.func32,Tryz.ntmps32;go_wp2_with (go_at_call 60;refine HN.o.mono ?_;rintro e w1 ⟨x,rfl,f1⟩;obtain⟨F3,⟨q0,q1,q2⟩,z0,z1,z2⟩:=HB.o w1 f1;have F3:=Hd F3;clear f1);refine ez (v:=.tuple #[.agg #[.pointer none,.i 0,.slice none 0 0],.i 1]) ?_ rfl ⟨rfl,?_⟩
  .rw[results_cell_tmp rfl];go_simp
  exact ZC.o _ F3.o
theorem Sk.base{B B' b n:Nat}{w:World}{F:List Nat}{r:ak}(h:Sk B w b F r n)(hb:B'≤B):Sk B' w b F r n:=by obtain⟨⟨s,rp,m,e⟩,o⟩:=h;exact⟨⟨s,aC.base rp hb,m,e⟩,o⟩
def QH(w w':World)(id:Int)(n:Nat)(t:cC)(last:Int)(b:Nat)(ra:Option Addr)(rc:Nat):Prop:=∃F,Sk w.heap.size w' b F (ak.fresh id n 16) 0∧Rw F w' w.heap.size ra (bJ t) rc∧Fr [] w w'
theorem nW(id:Int)(n:Nat)(t:cC)(last:Int)(w:World)(ht:t.size≤2000000)(hk:nT id n last)(hg:gP t=0):
 Cl 32 #[.i id,.i n,.t t,.i last] w λe w'=>∃b ra rc,e=.returned (.tuple #[.agg #[.p b,.i last,.slice ra (bJ t).length rc],.i 0])∧QH w w' id n t last b ra rc:=by
 obtain⟨w0,hw0⟩:=eX (w.alloc (.cells #[.pointer none,.i 0,.slice none 0 0] 95));obtain⟨rb,hrb⟩:=eX w.heap.size;have n0:w0.heap[rb]?=some (.cells #[.pointer none,.i 0,.slice none 0 0] 95 (0,0)):=by rw[<-hw0,<-hrb];exact di w _
 have H0:Hid (Fr [] w w0∧w0.heap[rb]?=some (.cells #[.pointer none,.i 0,.slice none 0 0] 95 (0,0))∧w.heap.size=rb∧w0.heap.size=rb+1):=⟨by rw[<-hw0];exact fR.alloc _,n0,hrb,by rw[<-hw0,<-hrb];simp⟩;have HN:=Hd (MZ id n w0 hk.1.1 (by have:=hk.1.2;omega));obtain⟨rs,hrs⟩:=eX (bJ t);have HP:Hid (∀W,Cl 61 #[.t t] W λe w'=>∃ra rc,e=.returned (.tuple #[.slice ra rs.length rc,.i 0])∧w'.ownsRow W.heap.size 172 2 (.slice ra rs.length rc) rs.length (GQ rs)∧Fr [] W w'):=λW=>by have h9:=Co t ht W;rw[hg,hrs]at h9;exact h9
 have l1:¬last<1:=by have:=hk.2;omega
 have l2:¬12<last:=by have:=hk.2;omega
 have dV:=hw0;unfold QH;rw[hrs];clear hk hg n0 hw0 hrs;go_enter Tryz.func32,Tryz.ntmps32;go_wp2_with (first
  |(go_at_call 61;refine(HP.o _).mono ?_;rintro e w2 ⟨ra,rc,rfl,o2,f2⟩;have n2:=(((H1.o.2.trans f2 (by simp)).block rb (cY.1 H0.o.2.1).1 (by simp))).trans H0.o.2.1;have q0:cD w2 rb 0 (.pointer none):=ce n2 rfl;have q1:cE w2 rb 1 0:=ce n2 rfl;have q2:cD w2 rb 2 (.slice none 0 0):=ce n2 rfl;have z0:w2.frozen? (Ad rb 0)=false:=ay n2 _;have z1:w2.frozen? (Ad rb 1)=false:=ay n2 _;have z2:w2.frozen? (Ad rb 2)=false:=ay n2 _;have H2:Hid ((Sk w0.heap.size w2 b F (ak.fresh id n 16) 0∧∀k∈F,k<w1.heap.size)∧w2.ownsRow w1.heap.size 172 2 (.slice ra rs.length rc) rs.length (GQ rs)∧Fr [] w0 w2∧w0.heap.size≤w1.heap.size):=⟨⟨H1.o.1.same f2,λk hk=>(H1.o.1.1.lt k hk).2⟩,o2,H1.o.2.trans f2 (by simp),H1.o.2.size⟩;clear o2 f2 n2)
  |(go_at_call 60;refine HN.o.mono ?_;rintro e w1 ⟨b,F,rfl,s1,f1⟩;have H1:=Hj2 s1 f1;clear s1 f1))
 have hf3:Fr [rb] w2 (((w2.setCell (Ad rb 0) (.p b)).setCell (Ad rb 1) (.i last)).setCell (Ad rb 2) (.slice ra rs.length rc)):=((fR.setCell _ (Or.inl (by simp))).setCell _ (Or.inl (by simp))).setCell _ (Or.inl (by simp));obtain⟨⟨s2,hF⟩,o2,f2,hl2⟩:=H2.o;obtain⟨f0,_,aap,hsz⟩:=H0.o;have hne:∀k∈F,k∉[rb]:=λk hk hm=>by have:=(s2.1.lt k hk).1;simp at hm;omega
 refine ez (v:=.tuple #[.agg #[.p b,.i last,.slice ra rs.length rc],.i 0]) ?_ rfl ⟨b,ra,rc,rfl,F,Sk.base ⟨s2.1.fr hf3 hne,s2.2⟩ (by omega),⟨dD (dF o2 hf3 λk hk hm=>?_) (by omega),λk hk hm=>?_⟩,?_⟩
 .rw[results_cell_tmp rfl];go_simp
 .have:=(av o2 hk).1;simp at hm;omega
 .have:=(av o2 hk).1;have:=hF k hm;omega
 have hbw:w.heap.size≤rb:=by omega
 exact(((f0.trans f2 (by simp)).setCell _ (Or.inr hbw)).setCell _ (Or.inr hbw)).setCell _ (Or.inr hbw)
def AJ(id:Int)(n:Nat)(t:cC)(last:Int):Rp:=⟨last,bJ t,ak.fresh id n 16⟩
theorem G5{id:Int}{n:Nat}{t:cC}{last:Int}(h:1≤last∧last≤12):pX (AJ id n t last):=⟨h,Cn t⟩
def jB(Q:List Nat->World->Prop)(w w':World):Prop:=∃G,Q G w'∧(∀k∈G,w.heap.size≤k)∧Fr [] w w'
theorem nU(id bl:Int)(t:cC)(last:Int)(w:World)(ht:t.size≤2000000):
 Cl 12 #[.i id,.i bl,.t t,.i last] w λe w'=>(mQ id bl last t≠0∧e=.returned (.tuple #[.pointer none,.i (mQ id bl last t)])∧Fr [] w w')∨(mQ id bl last t=0∧nT id bl last∧∃p:Pl,e=.returned (.tuple #[.p p.xb,.i 0])∧jB (AB p (AJ id bl.toNat t last) 0) w w'):=by
 by_cases h:mQ id bl last t=0
 .have hk:nT id bl last:=by
   unfold mQ at h;split at h
   .assumption
   omega
  have hg:gP t=0:=by unfold mQ at h;rw[if_pos hk]at h;exact h
  obtain⟨n,hn⟩:∃n:Nat,bl=(n:Int):=⟨bl.toNat,by have:=hk.1.2;omega⟩;subst hn;have HK:=Hd (nW id n t last w ht hk hg);have HH:=Hj2 h hk;obtain⟨rl,hrl⟩:=eX (bJ t).length;have HRl:=Hd hrl;rw[hrl]at HK;clear h hk hg hrl;go_enter Tryz.func12,Tryz.ntmps12;go_wp2_with (go_at_call 32;refine HK.o.mono ?_;rintro e w1 ⟨b,ra,rc,rfl,p1⟩;have H1:=Hd p1;clear p1);have f2:Fr [] w1 ((w1.alloc (.cells #[.p b,.i last,.slice ra rl rc] 95)).alloc (.cells #[.p b,.i last,.slice ra rl rc] 106)):=(fR.alloc _).alloc _;have n2:=di (w1.alloc (.cells #[.p b,.i last,.slice ra rl rc] 95)) (.cells #[.p b,.i last,.slice ra rl rc] 106);have hsz:(w1.alloc (.cells #[.p b,.i last,.slice ra rl rc] 95)).heap.size=w1.heap.size+1:=by simp
  rw[hsz]at n2;obtain⟨F,s1,r1,f1⟩:=H1.o;have hw:=f1.size;refine ez (ft rfl _ _ _) rfl (Or.inr ⟨HH.o.1,HH.o.2,⟨w.heap.size,w1.heap.size+1,0,b,w.heap.size,ra,rc⟩,rfl,_,⟨F,by rw[Int.toNat_natCast];exact s1.same f2,⟨s1.new (by show w1.heap.size≤w1.heap.size+1;omega),by rw[n2,<-HRl.o];rfl⟩,r1.same f2,rfl⟩,λk hk=>?_,f1.trans f2 (by simp)⟩);simp only[fL,fe,ek,dT]at hk;rcases hk with rfl|hk|hk
  .show w.heap.size≤w1.heap.size+1;omega
  .exact(s1.1.lt k hk).1
  exact(av r1.1 (by simpa[xu,AJ]using hk)).1
 have HK:=Hd (mW id bl t last w ht h);obtain⟨z,hz⟩:=eX (mQ id bl last t);rw[hz]at h HK⊢;have q0:(z==0)=false:=by simpa using h
 have HH:=Hd h;clear h hz;go_enter Tryz.func12,Tryz.ntmps12;go_wp2_with (go_at_call 32;refine HK.o.mono ?_;rintro e w1 ⟨rfl,f1⟩;have H1:=Hd f1;clear f1);refine ez (ft rfl _ _ _) rfl (Or.inl ⟨HH.o,rfl,H1.o.alloc _⟩)
end Go.Proofs.YtjceeemlilnplaaGreatDoor
