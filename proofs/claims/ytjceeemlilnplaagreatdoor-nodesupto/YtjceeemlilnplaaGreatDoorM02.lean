import Derived.Test.YtjceeemlilnplaaGreatDoorM01
import Derived.Test.YtjceeemlilnplaaGreatDoorProg
import Derived.Conc.RwLib
import Derived.Conc.MuData
import Derived.KernelRfl
import Derived.Test.YtjceeemlilnplaaGreatDoorRows
import Derived.Conc.MuLone
import Derived.WalkKit
import Derived.WalkSpells
import Derived.WalkLawsBesides
import Derived.Deep.QuietTactic
import Derived.BigQuiet
import Derived.Deep.LoopGhost
import Derived.Maps.OwnSet
import Derived.DeepKeys4
import Derived.Laws.IdiomStrings
import Derived.Lib.LazyBuf
import Derived.WalkArith
set_option maxRecDepth 100000
set_option maxHeartbeats 12800000
set_option linter.all false
namespace Go.Proofs
abbrev Tryz.muLink:Go.Conc.Locks.MuLink:={lock:=50,unlock:=51,ilock:=105,iunlock:=106,lockSlow:=149,unlockSlow:=152,disable:=145,enable:=147,acquire:=148,relMerge:=150,cas32:=146,add32:=151,tMutex:=129,tIMutex:=127,tPMutex:=204,tPIMutex:=234,tPI32:=236,tUP:=238,tNoCopy:=124,tU32:=125}
theorem Tryz.muLib:Go.Conc.Locks.MuLib Tryz.prog Tryz.muLink:=
 ⟨Tryz.func50,Tryz.func51,Tryz.func105,Tryz.func106,Tryz.func145,Tryz.func147,Tryz.func148,Tryz.func150,Tryz.func146,Tryz.func151,Tryz.underlying127,Tryz.runUnderlying127,Tryz.sizeOf127,Tryz.isAgg127,Tryz.zeroValue127,Tryz.underlying129,Tryz.runUnderlying129,Tryz.sizeOf129,Tryz.isAgg129,Tryz.zeroValue129,Tryz.underlying204,Tryz.runUnderlying204,Tryz.sizeOf204,Tryz.isAgg204,Tryz.zeroValue204,Tryz.underlying234,Tryz.runUnderlying234,Tryz.sizeOf234,Tryz.isAgg234,Tryz.zeroValue234,Tryz.underlying236,Tryz.runUnderlying236,Tryz.sizeOf236,Tryz.isAgg236,Tryz.zeroValue236,Tryz.underlying238,Tryz.runUnderlying238,Tryz.sizeOf238,Tryz.isAgg238,Tryz.zeroValue238,Tryz.underlying124,Tryz.runUnderlying124,Tryz.sizeOf124,Tryz.isAgg124,Tryz.zeroValue124,Tryz.underlying21,Tryz.runUnderlying21,Tryz.sizeOf21,Tryz.isAgg21,Tryz.zeroValue21,(by kernel_rfl)⟩
end Go.Proofs
namespace Go.Proofs.YtjceeemlilnplaaGreatDoor
open Go.RowKit Go.Maps
structure B4 where
 a:UInt8
 b:UInt8
 c:UInt8
 d:UInt8
def u8(x:UInt8):Value:=.u (x.toNat:Int)
def B4.cells(x:B4):List Value:=[u8 x.a,u8 x.b,u8 x.c,u8 x.d]
def B4.val(x:B4):Value:=.agg #[u8 x.a,u8 x.b,u8 x.c,u8 x.d]
def B4.list(x:B4):List UInt8:=[x.a,x.b,x.c,x.d]
def B4.str(x:B4):Value:=.t ⟨#[x.a,x.b,x.c,x.d]⟩
def B4.zero:B4:=⟨0,0,0,0⟩
structure Ct where
 x:B4
 n:Int
def Ct.cells(c:Ct):List Value:=[u8 c.x.a,u8 c.x.b,u8 c.x.c,u8 c.x.d,.i c.n]
def Ct.val(c:Ct):Value:=.agg #[u8 c.x.a,u8 c.x.b,u8 c.x.c,u8 c.x.d,.i c.n]
def Ct.zero:Ct:=⟨B4.zero,0⟩
structure Sn where
 au:Int
 time:Int
 holds:Int
 came:Int
def Sn.cells(x:Sn):List Value:=[.i x.au,.i x.time,.i x.holds,.i x.came]
def dZ(x:Int×Int):List Value:=[.i x.1,.i x.2]
structure aK where
 id:Int
 aL:List Ct
 ss:List Sn
 th:Int->Int->Ct
 ms:List (Int×Int)
 came:Int
 taken:Int
 vb:Nat
 mb:Nat
 cnt:Nat
 sv:Value
 mv:Value
 log:List UInt8
 lv:Value
def mO(l:List Ct):List Value:=l.flatMap Ct.cells
def dO(l:List UInt8):List Value:=l.map u8
theorem eZ(l:List UInt8):(dO l).length=l.length:=by simp[dO]
def iH(l:List Sn):List Value:=l.flatMap Sn.cells
def cB(l:List (Int×Int)):List Value:=l.flatMap dZ
theorem nN(l:List Sn):(iH l).length=l.length*4:=by
 induction l with
 |nil=>rfl
 |cons x r ih=>simp[iH,Sn.cells]at ih⊢;omega
theorem dM(l:List (Int×Int)):(cB l).length=l.length*2:=by
 induction l with
 |nil=>rfl
 |cons x r ih=>simp[cB,dZ]at ih⊢;omega
theorem flat_get{α:Type}{f:α->List Value}{k:Nat}(hf:∀x,(f x).length=k):∀(l:List α)(i:Nat)(h:i<l.length)(j:Nat),j<k->(l.flatMap f)[i*k+j]?=(f l[i])[j]?
 |[],i,h,_,_=>by simp at h
 |x::r,0,_,j,hj=>by simp only[List.flatMap_cons,Nat.zero_mul,Nat.zero_add,List.getElem_cons_zero];rw[List.getElem?_append_left (by rw[hf];exact hj)]
 |x::r,i+1,h,j,hj=>by simp only[List.flatMap_cons,List.getElem_cons_succ];rw[List.getElem?_append_right (by rw[hf,Nat.add_mul];omega),hf,show(i+1)*k+j-k=i*k+j by rw[Nat.add_mul];omega];exact flat_get hf r i (by simpa using h) j hj
theorem xJ(l:List Ct)(i:Nat)(h:i<l.length):(mO l)[i*5]?=some (u8 l[i].x.a)∧(mO l)[i*5+1]?=some (u8 l[i].x.b)∧(mO l)[i*5+2]?=some (u8 l[i].x.c)∧(mO l)[i*5+3]?=some (u8 l[i].x.d)∧(mO l)[i*5+4]?=some (.i l[i].n):=by
 have hf:∀x:Ct,x.cells.length=5:=λ_=>rfl;refine⟨?_,?_,?_,?_,?_⟩
 .exact(flat_get hf l i h 0 (by omega))
 .exact(flat_get hf l i h 1 (by omega))
 .exact(flat_get hf l i h 2 (by omega))
 .exact(flat_get hf l i h 3 (by omega))
 exact(flat_get hf l i h 4 (by omega))
theorem iW(l:List Sn)(i:Nat)(h:i<l.length):(iH l)[i*4]?=some (.i l[i].au)∧(iH l)[i*4+1]?=some (.i l[i].time)∧(iH l)[i*4+2]?=some (.i l[i].holds)∧(iH l)[i*4+3]?=some (.i l[i].came):=by
 have hf:∀x:Sn,x.cells.length=4:=λ_=>rfl;refine⟨?_,?_,?_,?_⟩
 .exact(flat_get hf l i h 0 (by omega))
 .exact(flat_get hf l i h 1 (by omega))
 .exact(flat_get hf l i h 2 (by omega))
 exact(flat_get hf l i h 3 (by omega))
theorem jE(l:List (Int×Int))(i:Nat)(h:i<l.length):(cB l)[i*2]?=some (.i l[i].1)∧(cB l)[i*2+1]?=some (.i l[i].2):=by have hf:∀x:Int×Int,(dZ x).length=2:=λ_=>rfl;exact⟨flat_get hf l i h 0 (by omega),flat_get hf l i h 1 (by omega)⟩
def RV(v:Value):Option (DataW Value×List MemPlace):=some (.held v,[])
def kl(g i:Int):Lit:=.string (keyBytes [.int .i64 g,.int .i64 i])
def In64(x:Int):Prop:=-9223372036854775808≤x∧x≤9223372036854775807
theorem laidOut:laidOutB Tryz.prog=true:=by kernel_rfl
theorem qP:Keyed Tryz.prog 163:=Keyed.of_law (deep_law_laid laidOut (m:=3) (by omega) (of_decide_eq_true (by kernel_rfl)) (by kernel_rfl) (by rw[Tryz.underlying163]))
theorem U8{x:Int}(h:In64 x):(Lit.int .i64 x).wf=true:=by exact WalkArith.wf_i64 h
theorem oJ{g i:Int}(hg:In64 g)(hi:In64 i):keyOf Tryz.prog 163 (.agg #[.i g,.i i])=some (kl g i):=by
 have h1:Tryz.prog.keyType 163=true:=by kernel_rfl
 have h2:Tryz.prog.cellsOf 163=2:=by kernel_rfl
 have h3:Tryz.prog.cellsOf 3=1:=by kernel_rfl
 obtain⟨m,hm⟩:∃m,Tryz.prog.types.size=m+1:=⟨323,by kernel_rfl⟩;unfold keyOf;simp only[Tryz.underlying163];rw[if_pos (by simp[h1,Value.formed,Tryz.underlying163,h2]),hm];unfold Program.keyLits;simp only[Tryz.underlying163,Value.cells];rw[if_pos (by rw[h2];exact⟨rfl,by simp⟩)];simp[h3,Program.keyLits,Tryz.underlying3,U8 hg,U8 hi,kl]
theorem FN{g i g' i':Int}(hg:In64 g)(hi:In64 i)(hg':In64 g')(hi':In64 i')(h:kl g i=kl g' i'):g=g'∧i=i':=by have h1:=oJ hg hi;have h2:=oJ hg' hi';rw[<-h]at h2;have:=qP.inj h1 h2;simpa using this
def MapOf(w:World)(mb cnt:Nat)(th:Int->Int->Ct):Prop:=
 ∃D:DataW Value,w.ownsMap Tryz.prog 163 RV mb cnt D∧∀g i,In64 g->In64 i->D.atKey (kl g i) (.held Ct.zero.val)=.held (th g i).val
structure Fr(F:List Nat)(w w':World):Prop where
 os:w'.os=w.os
 tape:w'.tape=w.tape
 output:w'.output=w.output
 size:w.heap.size≤w'.heap.size
 block:∀k,k<w.heap.size->k∉F->w'.heap[k]?=w.heap[k]?
theorem Fr.refl(F:List Nat)(w:World):Fr F w w:=⟨rfl,rfl,rfl,Nat.le_refl _,λ_ _ _=>rfl⟩
theorem fR{F:List Nat}{w:World}:Fr F w w:=Fr.refl F w
theorem Fr.trans{F F':List Nat}{w w1 w2:World}(h:Fr F w w1)(h':Fr F' w1 w2)(hs:∀k∈F',k∈F∨w.heap.size≤k):Fr F w w2:=
 ⟨h'.os.trans h.os,h'.tape.trans h.tape,h'.output.trans h.output,Nat.le_trans h.size h'.size,λk hk hn=>
  (h'.block k (Nat.lt_of_lt_of_le hk h.size) (λe=>by rcases hs k e with h|h;exact hn h;omega)).trans (h.block k hk hn)⟩
theorem Fr.alloc{F:List Nat}{w w1:World}(h:Fr F w w1)(o:Obj):Fr F w (w1.alloc o):=
 ⟨h.os,h.tape,h.output,by simp;have:=h.size;omega,λk hk hn=>by rw[Below.heap_alloc w1 o k (Nat.lt_of_lt_of_le hk h.size)];exact h.block k hk hn⟩
theorem Fr.setCell{F:List Nat}{w w1:World}(h:Fr F w w1){a:Addr}(v:Value)(ha:a.block∈F∨w.heap.size≤a.block):Fr F w (w1.setCell a v):=
 ⟨h.os,h.tape,h.output,by simp;exact h.size,λk hk hn=>by rw[heap_setCell_other w1 a k v (λe=>by subst e;rcases ha with h|h;exact hn h;omega)];exact h.block k hk hn⟩
theorem Fr.drew{F:List Nat}{w w1:World}(h:Fr F w w1):Fr F w w1.drew:=⟨h.os,h.tape,h.output,h.size,h.block⟩
theorem Fr.drewN{F:List Nat}{w w1:World}(h:Fr F w w1)(n:Nat):Fr F w (w1.drewN n):=⟨h.os,h.tape,h.output,h.size,h.block⟩
theorem Fr.grown{F:List Nat}{w w1 w2:World}{row:Option Nat}(h:Fr F w w1)(hg:w1.grownBy w2 row)(hr:∀k,row=some k->k∈F∨w.heap.size≤k):Fr F w w2:=
 ⟨hg.os.trans h.os,hg.tape.trans h.tape,hg.output.trans h.output,Nat.le_trans h.size hg.size,λk hk hn=>
  (hg.block k (Nat.lt_of_lt_of_le hk h.size) (λe=>by rcases hr k e.symm with h|h;exact hn h;omega)).trans (h.block k hk hn)⟩
theorem Fr.mono{F F':List Nat}{w w1:World}(h:Fr F w w1)(hs:∀k∈F,k∈F'):Fr F' w w1:=
 ⟨h.os,h.tape,h.output,h.size,λk hk hn=>h.block k hk (λe=>hn (hs k e))⟩
theorem Fr.below{F:List Nat}{w w1:World}{B:Nat}(h:Fr F w w1)(hB:B≤w.heap.size)(hs:∀k∈F,B≤k):Below B w w1:=
 ⟨h.os,h.tape,h.output,h.size,λk hk=>h.block k (by omega) (λe=>by have:=hs k e;omega)⟩
theorem Fr.gb{w w1:World}(h:Fr [] w w1):w.grownBy w1 none:=⟨h.os,h.tape,h.output,h.size,λk hk _=>h.block k hk (by simp)⟩
def aK.blk(s:aK)(q:Int):Obj:=
 .cells #[.int .i32 q,.int .u32 0,.i s.id,.slice (some (Ad s.vb 0)) s.aL.length s.aL.length,s.sv,.map (some s.mb),s.mv,.i s.came,.i s.taken,s.lv] 136 (0,0)
structure aC(B:Nat)(w:World)(b:Nat)(q:Int)(s:aK):Prop where
 blk:w.heap[b]?=some (s.blk q)
 aL:w.heap[s.vb]?=some (.cells (mO s.aL).toArray 155 (0,0))
 ss:w.ownsRow B 138 4 s.sv s.ss.length (iH s.ss)
 th:MapOf w s.mb s.cnt s.th
 ms:w.ownsRow B 150 2 s.mv s.ms.length (cB s.ms)
 lg:w.ownsRow B 5 1 s.lv s.log.length (dO s.log)
 hb:B≤b
 hvb:B≤s.vb
 hmb:B≤s.mb
def foot(b:Nat)(s:aK):List Nat:=[b,s.vb,s.mb]++s.sv.ownBlock.toList++s.mv.ownBlock.toList++s.lv.ownBlock.toList
theorem MapOf.at{w:World}{mb cnt:Nat}{th:Int->Int->Ct}(h:MapOf w mb cnt th):∃es clock,w.heap[mb]?=some (.map es clock):=by obtain⟨D,⟨es,clock,h,_⟩,_⟩:=h;exact⟨es,clock,h⟩
theorem MapOf.of_block{w w':World}{mb cnt:Nat}{th:Int->Int->Ct}(h:MapOf w mb cnt th)(he:w'.heap[mb]?=w.heap[mb]?):MapOf w' mb cnt th:=by obtain⟨D,⟨es,clock,h1,h2⟩,h3⟩:=h;exact⟨D,⟨es,clock,by rw[he];exact h1,h2⟩,h3⟩
theorem aj{w w':World}{base:Nat}{e:TypeId}{size:Nat}{v:Value}{n:Nat}{xs:List Value}(h:w.ownsRow base e size v n xs)(he:∀k,v.ownBlock=some k->w'.heap[k]?=w.heap[k]?):w'.ownsRow base e size v n xs:=by
 refine⟨h.1,?_⟩;rcases h.2 with hn|⟨g,cap,cur,rfl,hb,hgg,rest⟩
 .exact .inl hn
 exact .inr ⟨g,cap,cur,rfl,hb,by rw[he g rfl];exact hgg,rest⟩
theorem av{w:World}{base:Nat}{e:TypeId}{size:Nat}{v:Value}{n:Nat}{xs:List Value}(h:w.ownsRow base e size v n xs){k:Nat}(hk:v.ownBlock=some k):base≤k∧∃cur,w.heap[k]?=some (.cells cur e (0,0)):=by
 rcases h.2 with⟨rfl,_⟩|⟨g,cap,cur,rfl,hb,hgg,rest⟩
 .simp[Value.ownBlock]at hk
 simp[Value.ownBlock]at hk;subst hk;exact⟨hb,cur,hgg⟩
theorem aC.mD{B:Nat}{w w':World}{b:Nat}{q:Int}{s:aK}(h:aC B w b q s)(he:∀k∈foot b s,w'.heap[k]?=w.heap[k]?):aC B w' b q s:=by
 refine⟨?_,?_,?_,?_,?_,?_,h.hb,h.hvb,h.hmb⟩
 .rw[he b (by simp[foot])];exact h.blk
 .rw[he s.vb (by simp[foot])];exact h.aL
 .exact aj h.ss (λk hk=>he k (by simp[foot,hk]))
 .exact h.th.of_block (he s.mb (by simp[foot]))
 .exact aj h.ms (λk hk=>he k (by simp[foot,hk]))
 exact aj h.lg (λk hk=>he k (by simp[foot,hk]))
theorem aC.lt{B:Nat}{w:World}{b:Nat}{q:Int}{s:aK}(h:aC B w b q s):∀k∈foot b s,B≤k∧k<w.heap.size:=by
 intro k hk;simp only[foot,List.mem_append,List.mem_cons,List.not_mem_nil,or_false,Option.mem_toList]at hk;rcases hk with(((rfl|rfl|rfl)|h1)|h1)|h1
 .exact⟨h.hb,(Array.getElem?_eq_some_iff.1 h.blk).1⟩
 .exact⟨h.hvb,(Array.getElem?_eq_some_iff.1 h.aL).1⟩
 .obtain⟨es,c,h1⟩:=h.th.at
  exact⟨h.hmb,(Array.getElem?_eq_some_iff.1 h1).1⟩
 .exact h.ss.lt k h1
 .exact h.ms.lt k h1
 exact h.lg.lt k h1
theorem aC.kept{B:Nat}{w w':World}{b:Nat}{q:Int}{s:aK}{F:List Nat}(h:aC B w b q s)(hf:Fr F w w')(hn:∀k∈foot b s,k∉F):aC B w' b q s:=
 h.mD λk hk=>hf.block k (h.lt k hk).2 (hn k hk)
theorem aC.aA{B:Nat}{w w':World}{b:Nat}{q:Int}{s:aK}(h:aC B w b q s)(hf:Fr [] w w'):aC B w' b q s:=h.kept hf (by simp)
theorem aC.apart{B:Nat}{w:World}{b:Nat}{q:Int}{s:aK}(h:aC B w b q s):s.vb≠b∧s.mb≠b∧s.mb≠s.vb∧(∀k,s.sv.ownBlock=some k->k≠b∧k≠s.vb∧k≠s.mb∧s.mv.ownBlock≠some k)∧(∀k,s.mv.ownBlock=some k->k≠b∧k≠s.vb∧k≠s.mb)∧(∀k,s.lv.ownBlock=some k->k≠b∧k≠s.vb∧k≠s.mb∧s.sv.ownBlock≠some k∧s.mv.ownBlock≠some k):=by
 obtain⟨es,c,h1⟩:=h.th.at
 have h2:=h.blk;have h3:=h.aL;unfold aK.blk at h2;refine⟨λe=>?_,λe=>?_,λe=>?_,λk hk=>?_,λk hk=>?_,λk hk=>?_⟩
 .rw[e,h2]at h3;simp at h3
 .rw[e,h2]at h1;simp at h1
 .rw[e,h3]at h1;simp at h1
 .obtain⟨_,cur,h4⟩:=av h.ss hk;refine⟨λe=>?_,λe=>?_,λe=>?_,λe=>?_⟩
  .rw[e,h2]at h4;simp at h4
  .rw[e,h3]at h4;simp at h4
  .rw[e,h1]at h4;simp at h4
  obtain⟨_,cur',h5⟩:=av h.ms e;rw[h4]at h5;simp at h5
 .obtain⟨_,cur,h4⟩:=av h.ms hk;refine⟨λe=>?_,λe=>?_,λe=>?_⟩
  .rw[e,h2]at h4;simp at h4
  .rw[e,h3]at h4;simp at h4
  rw[e,h1]at h4;simp at h4
 obtain⟨_,cur,h4⟩:=av h.lg hk;refine⟨λe=>?_,λe=>?_,λe=>?_,λe=>?_,λe=>?_⟩
 .rw[e,h2]at h4;simp at h4
 .rw[e,h3]at h4;simp at h4
 .rw[e,h1]at h4;simp at h4
 .obtain⟨_,cur',h5⟩:=av h.ss e;rw[h4]at h5;simp at h5
 obtain⟨_,cur',h5⟩:=av h.ms e;rw[h4]at h5;simp at h5
theorem cell_of{w:World}{b:Nat}{cs:Array Value}{t:TypeId}{fr:Nat×Nat}(h:w.heap[b]?=some (.cells cs t fr))(j:Nat):w.cell? (Ad b j)=cs[j]?:=by simp[World.cell?,h]
theorem ce{w:World}{b:Nat}{cs:Array Value}{t:TypeId}{fr:Nat×Nat}{j:Nat}{v:Value}(h:w.heap[b]?=some (.cells cs t fr))(e:cs[j]?=some v):w.cell? (Ad b j)=some v:=(cell_of h j).trans e
theorem ay{w:World}{b:Nat}{cs:Array Value}{t:TypeId}(h:w.heap[b]?=some (.cells cs t (0,0)))(j:Nat):w.frozen? (Ad b j)=false:=by simp[World.frozen?,h]
theorem aC.lock{B:Nat}{w:World}{b:Nat}{q:Int}{s:aK}(h:aC B w b q s)(q':Int):aC B (w.setCell (Ad b 0) (.int .i32 q')) b q' s:=by
 obtain⟨a1,a2,a3,a4,a5,a6⟩:=h.apart;refine⟨?_,?_,?_,?_,?_,?_,h.hb,h.hvb,h.hmb⟩
 .rw[heap_setCell_same w b 0 _ _ _ h.blk];rfl
 .rw[heap_setCell_other _ _ _ _ (by exact a1)];exact h.aL
 .exact aj h.ss (λk hk=>heap_setCell_other _ _ _ _ (a4 k hk).1)
 .exact h.th.of_block (heap_setCell_other _ _ _ _ (by exact a2))
 .exact aj h.ms (λk hk=>heap_setCell_other _ _ _ _ (a5 k hk).1)
 exact aj h.lg (λk hk=>heap_setCell_other _ _ _ _ (a6 k hk).1)
theorem aC.cells{B:Nat}{w:World}{b:Nat}{q:Int}{s:aK}(h:aC B w b q s):
 w.cell? (Ad b 0)=some (.int .i32 q)∧w.cell? (Ad b 2)=some (.i s.id)∧w.cell? (Ad b 3)=some (.slice (some (Ad s.vb 0)) s.aL.length s.aL.length)∧
 w.cell? (Ad b 4)=some s.sv∧w.cell? (Ad b 5)=some (.map (some s.mb))∧w.cell? (Ad b 6)=some s.mv∧w.cell? (Ad b 7)=some (.i s.came)∧w.cell? (Ad b 8)=some (.i s.taken)∧w.cell? (Ad b 9)=some s.lv:=by
 have h2:=h.blk;unfold aK.blk at h2;refine⟨?_,?_,?_,?_,?_,?_,?_,?_,?_⟩<;>rw[cell_of h2]<;>rfl
theorem aC.frozen{B:Nat}{w:World}{b:Nat}{q:Int}{s:aK}(h:aC B w b q s)(j:Nat):w.frozen? (Ad b j)=false:=ay h.blk j
open Go.RowKit Go.Maps Go.MuLone
theorem cY:∀{α:Type} {i:Nat} {b:α} {xs:Array α},xs[i]?=some b↔∃h,xs[i]=b:=@Array.getElem?_eq_some_iff
theorem de:∀(w:World) (a:Addr) (k:Nat) (v:Value),k≠a.block->(w.setCell a v).heap[k]?=w.heap[k]?:=@heap_setCell_other
theorem df:∀{α:Type} {i:Nat} {a:α} {l:List α},l[i]?=some a↔∃h,l[i]=a:=@List.getElem?_eq_some_iff
theorem di:∀(w:World) (o:Obj),(w.alloc o).heap[w.heap.size]?=some o:=@heap_alloc_new
theorem dm:∀(w:World) (a:Addr) {u:Value},w.cell? a=some u->a.block<w.heap.size:=@World.block_lt_of_cell?
theorem dp:∀{α:Type} {l:List α} {i:Nat} (h:i<l.length),l[i]?=some l[i]:=@List.getElem?_eq_getElem
theorem dq:∀{α:Type} {xs:List α} {i:Nat},xs.toArray[i]?=xs[i]?:=@List.getElem?_toArray
theorem du:∀{w w':World} {a:Addr},w'.heap[a.block]?=w.heap[a.block]?->w'.cell? a=w.cell? a:=@World.cell?_of_block
theorem dy:∀(w:World) (g i:Nat) (cs:Array Value) (t:TypeId) (v:Value),w.heap[g]?=some (Obj.cells cs t)->(w.setCell {block:=g,off:=i} v).heap[g]?=some (Obj.cells (cs.setIfInBounds i v) t):=@heap_setCell_same
theorem dC:∀(n:Nat),0≤n:=@Nat.zero_le
theorem dE:∀{α:Type} {xs bs:List α},(xs++bs).length=xs.length+bs.length:=@List.length_append
theorem dT:∀{α:Type} {a:α} {s t:List α},a∈s++t↔a∈s∨a∈t:=@List.mem_append
theorem eh:∀(n:Nat),n≤n:=@Nat.le_refl
theorem ei:∀(w:World) (o:Obj) (k:Nat),k<w.heap.size->(w.alloc o).heap[k]?=w.heap[k]?:=@Below.heap_alloc
theorem ek:∀{α:Type} {b:α} {l:List α} {a:α},a∈b::l↔a=b∨a∈l:=@List.mem_cons
theorem eo:∀{a:ByteArray} {b e:Nat},(a.extract b e).size=min e a.size - b:=@ByteArray.size_extract
theorem ew:∀{α:Type} {i:Nat} {l:List α} (h:i<l.length),List.take (i+1) l=List.take i l++[l[i]]:=@List.take_succ_eq_append_getElem
theorem ez:∀{P:Program} {fn:Func} {R:Ending->World->Prop} {a:Act} {w:World} {v:Value},Sem.run P (results fn a.tmps) w=Result.ok v w->a.defers=[]->R (Ending.returned v) w->bodyPost P fn R Exit.ret a w:=@bodyPost_ret
theorem eA:∀(w:World) (base:Nat) (e:TypeId) (size:Nat),w.ownsRow base e size (Value.slice none 0 0) 0 []:=@World.ownsRow_nil
theorem eC:∀{α:Type} {l₁ l₂:List α} {i:Nat},l₁.length≤i->(l₁++l₂)[i]?=l₂[i - l₁.length]?:=@List.getElem?_append_right
theorem eE:∀{α:Type} {l:List α} {n:Nat} (h:n<l.length),l[n]∈l:=@List.getElem_mem
theorem eI:∀{α:Type} {β:Type} {xs:List α} (f:α->β),(List.map f xs).length=xs.length:=@List.length_map
theorem eJ:∀{n m k:Nat},n≤m->m≤k->n≤k:=@Nat.le_trans
theorem eK:∀{P:Program} {L:Conc.Locks.MuLink},Conc.Locks.MuLib P L->∀(a:Addr) (u:FrameMode) (w:World),w.cell? a=some (Value.int IntKind.i32 1)->w.frozen? a=false->CallsD P L.unlock #[Value.pointer (some a)] u w λe u' w'=>u'=u∧e=Ending.returned (Value.tuple #[])∧w'=w.setCell a (Value.int IntKind.i32 0):=@unlock_deferred
theorem eL:∀{α:Type} {i:Nat} {l:List α},l.length≤i->List.take i l=l:=@List.take_of_length_le
theorem eM:∀{α:Type} {i:Nat} {l:List α},(List.take i l).length=min i l.length:=@List.length_take
theorem eN:∀{α:Type} {i:Nat} {l:List α} (h:i<l.length),List.drop i l=l[i]::List.drop (i+1) l:=@List.drop_eq_getElem_cons
theorem eQ:∀{α:Type} {l:List α} {i j:Nat},i<j->(List.take j l)[i]?=l[i]?:=@List.getElem?_take_of_lt
theorem eR:∀{α:Type} {xs:List α} {i:Nat} {a:α},(xs.set i a).length=xs.length:=@List.length_set
theorem eS:∀{α:Type} {l₁ l₂:List α} {i:Nat},i<l₁.length->(l₁++l₂)[i]?=l₁[i]?:=@List.getElem?_append_left
theorem eV:∀(n:Nat),0+n=n:=@Nat.zero_add
theorem eW:∀{α:Type} {l:List α} {i:Nat} {a:α},l[i]?=some a->a∈l:=@List.mem_of_getElem?
theorem fe:∀{α:Type} (xs:List α),[]++xs=xs:=@List.nil_append
theorem ff:∀{α:Type} {xs:Array α} {i:Nat} (h:i<xs.size),xs[i]?=some xs[i]:=@Array.getElem?_eq_getElem
theorem fh:∀(a b:Bool),((a&&b)=true)=(a=true∧b=true):=@Bool.and_eq_true
theorem fj:∀{α:Type} {β:Type} {f:α->β} {l₁ l₂:List α},List.map f (l₁++l₂)=List.map f l₁++List.map f l₂:=@List.map_append
theorem fk:∀{α:Type} {xs:Array α},xs.toList.length=xs.size:=@Array.length_toList
theorem fl:∀{α:Type} {s t:List α} (i:Nat) (x:α),s.length≤i->(s++t).set i x=s++t.set (i - s.length) x:=@List.set_append_right
theorem fm:∀{α:Type} {β:Type} {b:β} {f:α->β} {l:List α},b∈List.map f l↔∃a,a∈l∧f a=b:=@List.mem_map
theorem ft:∀{fn:Func} {t u:Tmp},fn.results=#[ResultVar.tmp t,ResultVar.tmp u]->∀(tmps:Array Value) (P:Program) (w:World),Sem.run P (results fn tmps) w=Result.ok (Value.tuple #[tmps.getD t undef,tmps.getD u undef]) w:=@results_tmp2
theorem fw:∀{α:Type} {xs:Array α} {i:Nat},xs.toList[i]?=xs[i]?:=@Array.getElem?_toList
theorem fy:∀{α:Type} {a:α},¬a∈[]:=@List.not_mem_nil
theorem fL:∀{α:Type} {a:α} {xs bs:List α},a::xs++bs=a::(xs++bs):=@List.cons_append
theorem fN:∀{a b:Nat},a≤b->min a b=a:=@Nat.min_eq_left
theorem fS:∀{p:Prop} [inst:Decidable p],(decide p=true)=p:=@decide_eq_true_eq
theorem fW:∀{α:Type} {p:α->Bool} {l:List α},l.any p=true↔∃x,x∈l∧p x=true:=@List.any_eq_true
theorem fY:∀{a b:ByteArray},(a++b).size=a.size+b.size:=@ByteArray.size_append
theorem gd:∀{α:Type} {a:α} {o:Option α},a∈o.toList↔o=some a:=@Option.mem_toList
theorem gj:∀{α:Type} {i:Nat} {l:List α},(List.drop i l).length=l.length - i:=@List.length_drop
theorem gk:∀{m n:Nat},m∈List.range n↔m<n:=@List.mem_range
theorem gl:∀{α:Type} (i:Nat) (l:List α),List.take i l++List.drop i l=l:=@List.take_append_drop
theorem gm:∀(a:Int),a≤a:=@Int.le_refl
theorem gn:∀{α:Type} (xs:List α),xs++[]=xs:=@List.append_nil
theorem gx:∀{α:Type} {l:List α} {i:Nat},i<l.length->(l.eraseIdx i).length=l.length - 1:=@List.length_eraseIdx_of_lt
theorem gC:∀{α:Type} {β:Type} {x:α} {xs:List α} {f:α->List β},List.flatMap f (x::xs)=f x++List.flatMap f xs:=@List.flatMap_cons
theorem gR:∀{α:Type} {p:α->Bool} {l:List α},l.any p=false↔∀(x:α),x∈l->¬p x=true:=@List.any_eq_false
theorem hI:∀{n m k:Nat},n<m->m≤k->n<k:=@Nat.lt_of_lt_of_le
theorem hJ:∀(w:World) (a b:Addr) (v:Value),a≠b->(w.setCell a v).cell? b=w.cell? b:=@World.cell?_setCell_other
theorem ic:∀{α:Type} {i j:Nat} {l:List α},List.drop i (List.drop j l)=List.drop (j+i) l:=@List.drop_drop
theorem ie:∀{α:Type} {l:List α},l.length=0->l=[]:=@List.eq_nil_of_length_eq_zero
theorem ij:∀(B:Nat) (w:World),Below B w w:=@Below.refl
theorem ik:∀{α:Type} {l:List α} {i:Nat} {a b:α},a∈l.set i b->a∈l∨a=b:=@List.mem_or_eq_of_mem_set
theorem il:∀{α:Type} {a:α} {xs:List α},(a::xs).length=xs.length+1:=@List.length_cons
theorem ip:∀{α:Type} (val val_1:α),(some val=some val_1)=(val=val_1):=@Option.some.injEq
theorem iu:∀{α:Type} (l:List α) (i:Nat),l.eraseIdx i=List.take i l++List.drop (i+1) l:=@List.eraseIdx_eq_take_drop_succ
theorem ix:∀(n:Nat),n+0=n:=@Nat.add_zero
theorem ja:∀{α:Type} {p:α->Bool} {l:List α},l.all p=true↔∀(x:α),x∈l->p x=true:=@List.all_eq_true
theorem jb:∀{α:Type} {β:Type} {l:List α} {a:α} {f:α->β},a∈l->f a∈List.map f l:=@List.mem_map_of_mem
theorem jj:∀{α:Type} (xs bs cs:List α),xs++bs++cs=xs++(bs++cs):=@List.append_assoc
theorem jn:∀{n:Nat},List.range n.succ=List.range n++[n]:=@List.range_succ
theorem js:∀(b:Bool),(true&&b)=b:=@Bool.true_and
theorem jt:∀{α:Type} {i:Nat} {l:List α},l.length≤i->List.drop i l=[]:=@List.drop_of_length_le
theorem jz:∀(b:Bool),(false&&b)=false:=@Bool.false_and
theorem j8:∀{α:Type} {a b:α},a∈[b]↔a=b:=@List.mem_singleton
theorem j9:∀{α:Type} (y:α) {a:α} {l:List α},a∈l->a∈y::l:=@List.mem_cons_of_mem
theorem kf:∀{α:Type} {l:List α},List.take l.length l=l:=@List.take_length
theorem kh:∀{α:Type} {i:Nat} {a:α} {l:List α},a∈List.take i l->a∈l:=@List.mem_of_mem_take
theorem km:∀{p:Prop} [inst:Decidable p],decide p=true->p:=@of_decide_eq_true
theorem kq:∀(b:Bool),((!b)=true)=(b=false):=@Bool.not_eq_true'
theorem ky:∀{a b:Int},0≤a->a.tmod b=a%b:=@Int.tmod_eq_emod_of_nonneg
theorem kz:∀(a b:Bool),((a||b)=true)=(a=true∨b=true):=@Bool.or_eq_true
theorem kB:∀{p:Prop} [inst:Decidable p],¬p->decide p=false:=@decide_eq_false
theorem kO:∀{α:Type} {l:List α},l.getLast?=l[l.length - 1]?:=@List.getLast?_eq_getElem?
theorem lh:∀{α:Type} {l:List α} {i:Nat},l.length≤i->l[i]?=none:=@List.getElem?_eq_none
theorem li:∀{α:Type} {n:Nat} {a:α},(List.replicate n a).length=n:=@List.length_replicate
end Go.Proofs.YtjceeemlilnplaaGreatDoor
