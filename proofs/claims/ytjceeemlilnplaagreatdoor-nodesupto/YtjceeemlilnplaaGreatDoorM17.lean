import Derived.Test.YtjceeemlilnplaaGreatDoorM16
import Derived.Test.YtjceeemlilnplaaGreatDoorM07
set_option maxRecDepth 100000
set_option maxHeartbeats 12800000
set_option linter.all false
namespace Go.Proofs.YtjceeemlilnplaaGreatDoor
open Go.RowKit Go.Maps Go.MuLone
theorem tq(b:Nat)(t:TypeId):∀(vs:List Value)(o:Nat)(w:World)(C:List Value),w.heap[b]?=some (.cells C.toArray t (0,0))->o+vs.length≤C.length->(w.setCells b o vs).heap[b]?=some (.cells (C.take o++vs++C.drop (o+vs.length)).toArray t (0,0))
 |[],o,w,C,h,_=>by show w.heap[b]?=_;rw[h];simp
 |v::r,o,w,C,h,hl=>by
  simp only[il]at hl;have h1:(w.setCell (Ad b o) v).heap[b]?=some (.cells (C.set o v).toArray t (0,0)):=by rw[dy w b o _ _ v h];simp
  have ih:=tq b t r (o+1) _ (C.set o v) h1 (by rw[eR];omega);show((w.setCell (Ad b o) v).setCells b (o+1) r).heap[b]?=_;rw[ih];congr 3;rw[List.take_set,List.drop_set];have e1:(C.take (o+1)).set o v=C.take o++[v]:=by rw[ew (by omega),fl _ _ (by rw[eM];omega),eM,fN (by omega),Nat.sub_self];rfl
  rw[e1,if_pos (by omega)];simp only[il,jj,List.singleton_append];rw[show o+1+r.length=o+(r.length+1) by omega];try rfl
theorem jL(b:Nat):∀(vs:List Value)(o:Nat)(w:World)(k:Nat),k≠b->(w.setCells b o vs).heap[k]?=w.heap[k]?
 |[],_,_,_,_=>rfl
 |v::r,o,w,k,hk=>by show((w.setCell (Ad b o) v).setCells b (o+1) r).heap[k]?=_;rw[jL b r (o+1) _ k hk,de _ _ _ _ hk]
theorem zw{F:List Nat}{w:World}{b:Nat}(hb:b∈F):∀(vs:List Value)(o:Nat)(W:World),Fr F w W->Fr F w (W.setCells b o vs)
 |[],_,_,h=>h
 |v::r,o,_,h=>zw hb r (o+1) _ (h.setCell v (Or.inl hb))
theorem aG.Yr{B:Nat}{w:World}{b:Nat}{s:ak}(h:aG B w b s)(D:List cC)(Bo:List Int)(hD:D.length=16)(hB:Bo.length=16):aG B (w.setCells b 4 (bG D++aT Bo)) b {s with dat:=D,born:=Bo}:=by
 obtain⟨a1,a2⟩:=h.apart;have hlen:(bG D++aT Bo).length=32:=by simp[bG,aT,hD,hB]
 have hcl:s.cells.length=38:=by simp[ak.cells,bG,aT,h.j6,h.b16]
 refine⟨?_,hD,hB,h.wf,aj h.sh (λk hk=>jL _ _ _ _ _ (a1 k hk).1),aj h.ms (λk hk=>jL _ _ _ _ _ (a2 k hk)),h.hb⟩;rw[tq b 146 _ 4 w s.cells h.blk (by rw[hlen,hcl];omega),hlen];have e1:s.cells.take 4=[Value.i s.id,.i s.blocks,.i s.now,.i s.last]:=rfl;have e2:s.cells.drop (4+32)=[s.sv,s.mv]:=by unfold ak.cells;rw[List.drop_append,jt (by simp),fe];have:4+32 - [Value.i s.id,.i s.blocks,.i s.now,.i s.last].length=32:=rfl;rw[this,List.drop_append,jt (by simp[bG,h.j6]),fe,List.drop_append,jt (by simp[bG,aT,h.j6,h.b16]),fe];simp[bG,aT,h.j6,h.b16]
 rw[e1,e2];simp[ak.cells]
theorem aG.PX{B:Nat}{w:World}{b:Nat}{s:ak}(h:aG B w b s):w.there b 4 32:=λj hj=>by
 refine⟨?_,h.frozen _⟩;have hcl:s.cells.length=38:=by simp[ak.cells,bG,aT,h.j6,h.b16]
 rw[cell_of h.blk,dq,dp (by rw[hcl];omega)];rfl
def fD(D:List cC)(l:List (Int×B4)):List cC:=l.foldl (λD o=>D.set o.1.toNat o.2.ba) D
def fB(z:Int)(Bo:List Int)(l:List (Int×B4)):List Int:=l.foldl (λD o=>D.set o.1.toNat z) Bo
theorem tu:∀(l:List (Int×B4))(D:List cC),(fD D l).length=D.length
 |[],_=>rfl
 |x::r,D=>by have:=tu r (D.set x.1.toNat x.2.ba);rw[eR]at this;exact this
theorem tF(z:Int):∀(l:List (Int×B4))(D:List Int),(fB z D l).length=D.length
 |[],_=>rfl
 |x::r,D=>by have:=tF z r (D.set x.1.toNat z);rw[eR]at this;exact this
theorem Df(D:List cC)(l:List (Int×B4))(k:Nat)(h:k<l.length):fD D (l.take (k+1))=(fD D (l.take k)).set l[k].1.toNat l[k].2.ba:=by unfold fD;rw[ew h,List.foldl_append];rfl
theorem Dh(z:Int)(D:List Int)(l:List (Int×B4))(k:Nat)(h:k<l.length):fB z D (l.take (k+1))=(fB z D (l.take k)).set l[k].1.toNat z:=by unfold fB;rw[ew h,List.foldl_append];rfl
structure l7(B b:Nat)(s0:ak)(w W:World)(s:ak)(bx:Nat)(f t m nb:Int)(na:Option Addr)(nc:Nat)(da:Option Addr)(dc ln:Nat)(l:List (Int×B4)):Prop where
 rep:aG B W b s
 fr:Fr (aN b s0) w W
 box:W.heap[bx]?=some (.cells #[.i f,.i t,.i m,.i nb,.slice na ln nc,.slice da ln dc] 221 (0,0))
 nr:W.ownsRow w.heap.size 3 1 (.slice na ln nc) ln (l.map λx=>Value.i x.1)
 dr:W.ownsRow w.heap.size 9 1 (.slice da ln dc) ln (l.map λx=>Value.t x.2.ba)
section
variable {B b:Nat}{s0:ak}{w W W':World}{s s':ak}{bx:Nat}{f t m nb:Int}{na:Option Addr}{nc:Nat}{da:Option Addr}{dc ln:Nat}{l:List (Int×B4)}
theorem l7.same(h:l7 B b s0 w W s bx f t m nb na nc da dc ln l)(hf:Fr [] W W'):l7 B b s0 w W' s bx f t m nb na nc da dc ln l:=
 ⟨h.rep.aA hf,h.fr.trans hf (by simp),by rw[hf.block bx (cY.1 h.box).1 (by simp)];exact h.box,bD h.nr hf,bD h.dr hf⟩
theorem l7.far(h:l7 B b s0 w W s bx f t m nb na nc da dc ln l):bx≠b∧(∀k,(Value.slice na ln nc).ownBlock=some k->k≠b)∧∀k,(Value.slice da ln dc).ownBlock=some k->k≠b:=by
 have h1:=h.rep.blk;refine⟨λe=>?_,λk hk e=>?_,λk hk e=>?_⟩
 .have h2:=h.box;rw[e,h1]at h2;simp at h2
 .obtain⟨_,cur,h2⟩:=av h.nr hk;rw[e,h1]at h2;simp at h2
 obtain⟨_,cur,h2⟩:=av h.dr hk;rw[e,h1]at h2;simp at h2
theorem l7.wr(h:l7 B b s0 w W s bx f t m nb na nc da dc ln l)(hr:aG B W' b s')(ho:∀k,k≠b->W'.heap[k]?=W.heap[k]?)(hf:Fr (aN b s0) w W'):l7 B b s0 w W' s' bx f t m nb na nc da dc ln l:=by obtain⟨a1,a2,a3⟩:=h.far;exact⟨hr,hf,by rw[ho bx a1];exact h.box,aj h.nr (λk hk=>ho k (a2 k hk)),aj h.dr (λk hk=>ho k (a3 k hk))⟩
theorem l7.xs(h:l7 B b s0 w W s bx f t m nb na nc da dc ln l):W.cell? (Ad bx 0)=some (.i f)∧W.cell? (Ad bx 1)=some (.i t)∧W.cell? (Ad bx 2)=some (.i m)∧W.cell? (Ad bx 3)=some (.i nb)∧W.cell? (Ad bx 4)=some (.slice na ln nc)∧W.cell? (Ad bx 5)=some (.slice da ln dc):=
 ⟨ce h.box rfl,ce h.box rfl,ce h.box rfl,ce h.box rfl,ce h.box rfl,ce h.box rfl⟩
theorem l7.now(h:l7 B b s0 w W s bx f t m nb na nc da dc ln l)(z:Int):l7 B b s0 w (W.setCell (Ad b 2) (.i z)) {s with now:=z} bx f t m nb na nc da dc ln l:=
 h.wr (h.rep.put 2 _ (tH s _) h.rep.j6 h.rep.b16 rfl rfl rfl rfl) (λk hk=>de _ _ _ _ hk) (h.fr.setCell _ (Or.inl (by simp[aN])))
theorem l7.aL(h:l7 B b s0 w W s bx f t m nb na nc da dc ln l)(D:List cC)(Bo:List Int)(hD:D.length=16)(hB:Bo.length=16):l7 B b s0 w (W.setCells b 4 (bG D++aT Bo)) {s with dat:=D,born:=Bo} bx f t m nb na nc da dc ln l:=
 h.wr (h.rep.Yr D Bo hD hB) (λk hk=>jL _ _ _ _ _ hk) (zw (by simp[aN]) _ _ _ h.fr)
theorem l7.blk(h:l7 B b s0 w W s bx f t m nb na nc da dc ln l)(k:Nat)(hk:k<16)(x:cC)(z:Int):l7 B b s0 w ((W.setCell (Ad b (4+k)) (.t x)).setCell (Ad b (20+k)) (.i z)) {s with dat:=s.dat.set k x,born:=s.born.set k z} bx f t m nb na nc da dc ln l:=by have h1:=h.rep.put (4+k) (.t x) (lZ s h.rep.j6 k hk x) (by simp[h.rep.j6]) h.rep.b16 rfl rfl rfl rfl;have h2:=h1.put (20+k) (.i z) (uX {s with dat:=s.dat.set k x} (by simp[h.rep.j6]) h.rep.b16 k hk z) (by simp[h.rep.j6]) (by simp[h.rep.b16]) rfl rfl rfl rfl;exact h.wr h2 (λk hk=>by rw[de _ _ _ _ hk,de _ _ _ _ hk]) ((h.fr.setCell _ (Or.inl (by simp[aN]))).setCell _ (Or.inl (by simp[aN])))
end
theorem qH{B b cap bX gg sn:Nat}{ao:Option Addr}{s s5:ak}{w W5 w9:World}{X:List Value}{x:aS}(hR:aG B W5 b s5)(hF:Fr (aN b s) w W5)(hsv:s.sv=.slice ao sn cap)(hsn:s.sh.length=sn)(e1:s5.sv=s.sv)(e2:s5.sh=s.sh)(hX:x.cells=X)(hx:x.wf)
 (hown:w9.ownsRow B 148 36 (.slice (some (Ad gg 0)) (sn+1) bX) (sn+1) (bS s.sh++X))(hgrow:(W5.alloc (.cells X.toArray 148)).drew.grownBy w9 (Value.slice ao sn cap).ownBlock)(hat:(Value.slice ao sn cap).ownBlock=some gg∨gg=W5.heap.size+1):
 ∃sv,aG B (w9.setCell (Ad b 36) (.slice (some (Ad gg 0)) (sn+1) bX)) b {s5 with sh:=s.sh++[x],sv:=sv}∧Fr (aN b s) w (w9.setCell (Ad b 36) (.slice (some (Ad gg 0)) (sn+1) bX))∧(∀k,sv.ownBlock=some k->s.sv.ownBlock=some k∨w.heap.size≤k):=by
 rw[<-hsv]at hgrow hat
 have hg1:W5.grownBy w9 s.sv.ownBlock:=⟨hgrow.os,hgrow.tape,hgrow.output,by have:=hgrow.size;simp at this;omega,λk hk hne=>(hgrow.block k (by simp;omega) hne).trans (ei W5 _ k hk)⟩;have hsz:=hF.size;have h9:=hR.appended (x:=x) hx (sv:=.slice (some (Ad gg 0)) (sn+1) bX) (w':=w9) (by rw[e2,hsn,hX];exact hown) (by rw[e1];exact hg1);rw[e2]at h9;refine⟨_,h9,(hF.grown hg1 (λk hk=>Or.inl (by simp[aN,hk]))).setCell _ (Or.inl (by simp[aN])),λk hk=>?_⟩;have e:gg=k:=by simpa[Value.ownBlock]using hk
 subst e;rcases hat with h|h
 .exact Or.inl h
 exact Or.inr (by omega)
end Go.Proofs.YtjceeemlilnplaaGreatDoor
