import Derived.Test.YtjceeemlilnplaaGreatDoorM04
set_option maxRecDepth 100000
set_option maxHeartbeats 12800000
set_option linter.all false
namespace Go.Proofs.YtjceeemlilnplaaGreatDoor
open Go.RowKit Go.Maps Go.MuLone
attribute [-go_sem] Instr.build Instr.buildSlice Instr.loadAt
theorem Jm(B b:Nat)(s:ak)(n t:Int)(w:World)(h:aG B w b s)(ht:0≤t∧t≤1073741824)(h1:1≤s.id∧s.id≤999)(h2:0≤s.last∧n≤999999)(hf:DW s n)(hs:s.sh.length<12)(hm:s.ms.length≤12)(hnw:0≤s.now∧s.now≤1000000000000):
 Rc 66 #[.p b,.i t] w (.tuple #[.i (1000000*s.id+n),.i 0]) λw'=>∃sv,aG B w' b (s.snap n t sv)∧Fr (aN b s) w w'∧(∀k,sv.ownBlock=some k->s.sv.ownBlock=some k∨w.heap.size≤k):=by
 obtain⟨i0,hi0⟩:∃i0,Tryz.prog.info? 148=some i0:=by
  cases hq:Tryz.prog.info? 148 with
  |none=>have:=jK;rw[hq]at this;cases this
  |some i=>exact⟨i,rfl⟩
 have hi1:i0.size=36∧i0.bytes=416:=by have:=jK;rw[hi0]at this;simpa using this
 obtain⟨z0,hz0,hzs⟩:∃z,i0.zero=some z∧z.cells.size=36:=by have:=oh;rw[hi0]at this;simpa using this
 obtain⟨c0,c1,c2,c3,cZ,c37⟩:=h.cells;have hlo:=hf.lo;have hhi:=hf.hi;have HH:Hid (∀k,Rc 119 #[.p b,.i (1000000*s.id+k)] w (.bool (JK s (1000000*s.id+k))) λw'=>w'=w):=λk=>iB B b s (1000000*s.id+k) w h (by omega) (by omega);have NG:Hid (DW s n):=hf;have Ra:aG B (w.setCell (Ad b 2) (.i (s.now+1))) b {s with now:=s.now+1}:=h.put 2 _ (tH s _) h.j6 h.b16 rfl rfl rfl rfl;have R1:aG B ((w.setCell (Ad b 2) (.i (s.now+1))).setCell (Ad b 3) (.i n)) b {s with now:=s.now+1,last:=n}:=Ra.put 3 _ (EY {s with now:=s.now+1} _) h.j6 h.b16 rfl rfl rfl rfl;have F1:Fr (aN b s) w ((w.setCell (Ad b 2) (.i (s.now+1))).setCell (Ad b 3) (.i n)):=(fR.setCell _ (Or.inl (by simp[aN]))).setCell _ (Or.inl (by simp[aN]));obtain⟨wa,nK⟩:=eX (w.setCell (Ad b 2) (.i (s.now+1)));obtain⟨w1,hw1⟩:=eX (wa.setCell (Ad b 3) (.i n));rw[nK]at Ra R1 F1;rw[hw1]at R1 F1;have hz:w1.heap.size=w.heap.size:=by rw[<-hw1,<-nK];simp
 have ca3:=Ra.cells.2.2.2.1;have f2:=h.frozen 2;have f3:=Ra.frozen 3;have f36:=R1.frozen 36;obtain⟨e0,e1,e2,e3,e36,e37⟩:=R1.cells;have hcl:(bG s.dat++aT s.born).length=32:=by simp[bG,aT,h.j6,h.b16]
 have U0:=run_loadAt_mid (P:=Tryz.prog) w1.drew b 4 142 _ _ (λj v hv=>R1.range j v hv) Tryz.underlying142 rfl (by rw[hcl];exact gZ);have sZ:∀W,_:=λW=>kT (1000000*s.id+n) t (s.now+1) W _ hcl;obtain⟨X,hX⟩:=eX (Value.i (1000000*s.id+n)::.i t::.i 0::.i (s.now+1)::(bG s.dat++aT s.born));have J4:X.length=36:=by rw[<-hX];simp only[il,hcl]
 have zq:∀W,_:=λW=>kU W X J4;rw[hX]at sZ;have hX1:∀u∈X,u.oneCell'=true:=by rw[<-hX];intro u hu;simp only[ek,dT,bG,aT,fm]at hu;rcases hu with rfl|rfl|rfl|rfl|⟨_,_,rfl⟩|⟨_,_,rfl⟩<;>rfl
 obtain⟨V,hV⟩:=eX (Value.agg (bG s.dat++aT s.born).toArray);obtain⟨U,hU⟩:=eX (Value.agg X.toArray);have hld:(Instr.loadAt 142 (.pointer (some (Ad b 4)))).run Tryz.prog w1.drew=.ok V w1.drew:=by rw[<-hV];exact U0
 have hbd:∀W,(Instr.build 148 #[(0,.i (1000000*s.id+n)),(1,.i t),(3,.i (s.now+1)),(4,V)]).run Tryz.prog W=.ok U W:=by rw[<-hV,<-hU];exact sZ
 have hbs:∀W,(Instr.buildSlice 143 1 #[(0,U)]).run Tryz.prog W=.ok (.slice (some (Ad W.heap.size 0)) 1 1) (W.alloc (.cells X.toArray 148)):=by rw[<-hU];exact zq
 clear U0 sZ zq hV hU;obtain⟨ao,cap,hsv⟩:=ah h.sh;have HR1:Hid (aG B w1 b {s with now:=s.now+1,last:=n}∧Fr (aN b s) w w1∧w1.heap.size=w.heap.size∧s.sv=.slice ao s.sh.length cap∧(Value.i (1000000*s.id+n)::.i t::.i 0::.i (s.now+1)::(bG s.dat++aT s.born))=X∧s.dat.length=16∧s.born.length=16):=⟨R1,F1,hz,hsv,hX,h.j6,h.b16⟩;have HO:Hid (w1.ownsRow B 148 36 (.slice ao s.sh.length cap) s.sh.length (bS s.sh)):=by rw[<-hsv];exact R1.sh
 have hne:(Value.slice ao s.sh.length cap).ownBlock≠some b:=λe=>(h.apart.1 b (by rw[hsv];exact e)).1 rfl;have hBw:B≤w1.heap.size:=by have:=R1.hb;have:=(R1.lt b (by simp[aN])).2;omega
 have lb':b<w1.heap.size:=(R1.lt b (by simp[aN])).2;simp only[hsv]at cZ e36;have p1:IntKind.i64.wrap (s.last+1)=s.last+1:=aD ⟨by omega,by omega⟩;have p2:IntKind.i64.wrap (1000000*s.id)=1000000*s.id:=aD ⟨by omega,by omega⟩;have p3:IntKind.i64.wrap (1000000*s.id+n)=1000000*s.id+n:=aD ⟨by omega,by omega⟩;have p4:IntKind.i64.wrap (s.now+1)=s.now+1:=aD ⟨by omega,by omega⟩;have t1:decide (t<0)=false:=by simp;omega
 have t2:decide (t>1073741824)=false:=by simp;omega
 have t3:¬((12:Int)≤(s.sh.length:Int)):=by omega
 have t4:decide (n>999999)=false:=by simp;omega
 clear h Ra R1 F1 hf hsv c1 c37 e1 e37 hz hX hcl;have l3:=LW;have l80:=wR;go_enter Tryz.func66,Tryz.ntmps66;go_wp2;go_loopw [6] (λi wr=>wr=w∧∃k:Int,(s.last<k∧k≤n)∧i=.i k) (λi _=>(n-intOf i).toNat)
 case atStart=>exact⟨rfl,s.last+1,⟨by omega,by omega⟩,rfl⟩
 obtain⟨rfl,k,⟨hk1,hk2⟩,rfl⟩:=hrel;have q3:IntKind.i64.wrap (1000000*s.id+k)=1000000*s.id+k:=aD ⟨by omega,by omega⟩;have q1:IntKind.i64.wrap (k+1)=k+1:=aD ⟨by omega,by omega⟩;by_cases hkn:k<n
 .have hb:=NG.o.no k hk1 hkn;have MC:Hid (Rc 119 #[.p b,.i (1000000*s.id+k)] wr (.bool true) λw'=>w'=wr):=by rw[<-hb];exact HH.o k
  clear hb HH;go_wp2_with (first
   |(go_at_call 119;refine MC.o.mono ?_;rintro e w' ⟨rfl,hw'⟩;subst w'))
  go_roundw
  case rel=>exact⟨by first|rfl|trivial,k+1,⟨by omega,by omega⟩,rfl⟩
  simp[intOf];omega
 have hkn':k=n:=by omega
 subst hkn';have hb:=NG.o.yes;have MC:Hid (Rc 119 #[.p b,.i (1000000*s.id+k)] wr (.bool false) λw'=>w'=wr):=by rw[<-hb];exact HH.o k
 clear hb HH NG;go_wp2_with (first
  |(go_at_call 119;refine MC.o.mono ?_;rintro e w' ⟨rfl,hw'⟩;subst w'))
 go_region_law
  ((refine step_append_lies _ (by rfl) _ _ _ (by rfl) B 148 i0 _ 36 416 Tryz.underlying143 hi0 hz0 hi1.1 hi1.2 hzs (by omega) (.slice ao s.sh.length cap) s.sh.length (bS s.sh) (by rfl) ((HO.o.alloc _).drew) (Ad w1.heap.size 0) 1 1 X (by rfl) (by rw[J4]) (World.news_of_block (cs:=X.toArray) (t:=148) (fr:=(0,0)) (di w1 _)) hX1 (by omega) (by unfold maxLen;omega) (by omega) (by simp;omega) (w1.heap.size+1) (by simp) ?_;intro gg bX w9 aH hgrow hat oK;have f9:w9.frozen? (Ad b 36)=false:=(hgrow.frozen_far (Ad b 36) (by simp;omega) (Ne.symm hne)).trans (dW lb' f36);have c9:w9.cell? (Ad b 36)=some (.slice ao s.sh.length cap):=(hgrow.cell_far (Ad b 36) (by simp;omega) (Ne.symm hne)).trans ((du (ei w1 _ b lb')).trans e36);have c90:w9.cell? (Ad b 0)=some (.i s.id):=(hgrow.cell_far (Ad b 0) (by simp;omega) (Ne.symm hne)).trans ((du (ei w1 _ b lb')).trans e0)))
 all_goals(go_wp2;go_ret2;exact⟨rfl,EN HR1.o.1 HR1.o.2.1 HR1.o.2.2.1 HR1.o.2.2.2.1 HR1.o.2.2.2.2.1 HR1.o.2.2.2.2.2.1 HR1.o.2.2.2.2.2.2 aH hgrow hat⟩)
end Go.Proofs.YtjceeemlilnplaaGreatDoor
