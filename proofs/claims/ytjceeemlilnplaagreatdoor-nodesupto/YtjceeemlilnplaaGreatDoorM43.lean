import Derived.Test.YtjceeemlilnplaaGreatDoorRows
import Derived.Test.YtjceeemlilnplaaGreatDoorM41
import Derived.WalkKit
import Derived.WalkSpells
import Derived.WalkLawsBesides
import Derived.Lib.Walk
import Derived.Lib.Strings
import Derived.Laws.Strings3
import Derived.Lib.Bytealg
import Derived.Deep.OwnRows
import Derived.Deep.LoopGhost
import Derived.Test.YtjceeemlilnplaaGreatDoorM42
import Derived.Deep.QuietTactic
import Derived.BigQuiet
set_option maxRecDepth 100000
set_option maxHeartbeats 12800000
set_option linter.all false
namespace Go.Proofs.YtjceeemlilnplaaGreatDoor.Gp
open Go.RowKit Pl
theorem ib_any(s:cC)(c:Int)(w:World):
 Rc 218 #[.t s,.u c] w (.i (Lib.indexByte s.data.toList c.toNat.toUInt8)) λw'=>w'=w:=by
 go_enter Tryz.func218,Tryz.ntmps218;go_wp2;rw[run_callFunc_extern Tryz.func231 (by kernel_rfl) (by kernel_rfl) (by kernel_rfl) (e:=Extern.BytealgIndexByte.indexByte) (by kernel_rfl),Lib.run_indexByteString];simp only[Result.andThen];rw[Oper.upon_value];go_wp2;go_ret;exact⟨rfl,rfl⟩
theorem idx_any(s:cC)(c:UInt8)(w:World):
 Rc 209 #[.t s,.t ⟨#[c]⟩] w (.i (Lib.indexByte s.data.toList c)) λw'=>w'=w:=by
 go_enter Tryz.func209,Tryz.ntmps209;go_wp2_with (go_at_call 218;refine(ib_any _ _ _).mono ?_;rintro e w' ⟨rfl,rfl⟩)
 .have h:([c]==s.toList)=true:=by assumption
  go_ret;refine⟨?_,rfl⟩;have e:s.data.toList=[c]:=by rw[<-Lib.toList_data];exact(beq_iff_eq.1 h).symm
  rw[e];simp[Lib.indexByte]
 go_ret;exact⟨rfl,rfl⟩
theorem index_any(s:cC)(c:UInt8)(w:World):
 Rc 185 #[.t s,.t ⟨#[c]⟩] w (.i (Lib.indexByte s.data.toList c)) λw'=>w'=w:=by
 go_enter Tryz.func185,Tryz.ntmps185;go_wp2_with (go_at_call 209;refine(idx_any _ _ _).mono ?_;rintro e w' ⟨rfl,rfl⟩);go_ret;exact⟨rfl,rfl⟩
end Go.Proofs.YtjceeemlilnplaaGreatDoor.Gp
namespace Go.Proofs.YtjceeemlilnplaaGreatDoor.Gp
open Go.RowKit Pl
abbrev dl(s:cC):List UInt8:=s.data.toList
theorem ib_cases(c:UInt8):∀l:List UInt8,(Lib.indexByte l c=-1∧c∉l)∨∃p r,l=p++c::r∧c∉p∧Lib.indexByte l c=p.length
 |[]=>Or.inl ⟨rfl,by simp⟩
 |b::l=>by
  by_cases e:b=c
  .exact Or.inr ⟨[],l,by simp[e],by simp,by simp[Lib.indexByte,e]⟩
  have hb:(b==c)=false:=by simpa using e
  rcases ib_cases c l with⟨h1,h2⟩|⟨p,r,h1,h2,h3⟩
  .left;exact⟨by simp[Lib.indexByte,hb,h1],by simp;exact⟨λx=>e x.symm,h2⟩⟩
  right;refine⟨b::p,r,by simp[h1],by simp;exact⟨λx=>e x.symm,h2⟩,?_⟩;have:((p.length:Int)==-1)=false:=by rw[beq_eq_false_iff_ne];omega
  simp[Lib.indexByte,hb,h3,this]
theorem extract_dl(s:cC)(a b:Nat):dl (s.extract a b)=((dl s).take b).drop a:=by show(s.extract a b).data.toList=_;rw[Lib.extract_data];simp[List.drop_take,dl]
theorem cutl_any(s:cC)(w:World)(hs:s.size≤140737488355328):
 Cl 186 #[.t s,.t ⟨#[120]⟩] w λe w'=>∃a b f,e=.returned (.tuple #[.t a,.t b,.bool f])∧dl a=bef (dl s)∧dl b=aft (dl s)∧∃n,w'=w.drewN n:=by
 rcases ib_cases 120 (dl s)with⟨hi,hn⟩|⟨p,r,hl,hp,hi⟩
 .go_enter Tryz.func186,Tryz.ntmps186;go_wp2_with (go_at_call 209;refine(idx_any _ _ _).mono ?_;rintro e w' ⟨rfl,rfl⟩;rw[show Lib.indexByte s.data.toList 120=_ from hi]);go_ret3;have:=tw_none 120 _ hn;exact⟨s,ByteArray.empty,false,rfl,by unfold bef;rw[this.1],by unfold aft;rw[this.2];rfl,0,rfl⟩
 have hsz:p.length+1≤s.size:=by have:=congrArg List.length hl;simp[dl]at this;omega
 have c1:(0:Int)≤↑p.length:=by omega
 have c2:(↑p.length:Int)≤↑s.size:=by omega
 have c3:(0:Int)≤↑p.length+1:=by omega
 have c4:(↑p.length+1:Int)≤↑s.size:=by omega
 have HL:=Hd hl;clear hl;go_enter Tryz.func186,Tryz.ntmps186;go_wp2_with (go_at_call 209;refine(idx_any _ _ _).mono ?_;rintro e w' ⟨rfl,rfl⟩;rw[show Lib.indexByte s.data.toList 120=_ from hi]);go_quiet (fail)
 go_wp2;go_ret3;have hl:=HL.o;have htw:=tw_app 120 p r hp;refine⟨s.extract 0 p.length,s.extract (p.length+1) s.size,true,rfl,?_,?_,nq,rfl⟩
 .rw[extract_dl,hl];unfold bef;rw[htw.1];simp
 rw[extract_dl,List.take_of_length_le (by simp[dl]),hl];unfold aft;rw[htw.2];simp
theorem cut_any(s:cC)(w:World)(hs:s.size≤140737488355328):
 Cl 156 #[.t s,.t ⟨#[120]⟩] w λe w'=>∃a b f,e=.returned (.tuple #[.t a,.t b,.bool f])∧dl a=bef (dl s)∧dl b=aft (dl s)∧∃n,w'=w.drewN n:=by
 go_enter Tryz.func156,Tryz.ntmps156;go_wp2_with (go_at_call 186;refine(cutl_any _ _ hs).mono ?_;rintro e w' ⟨a,b,f,rfl,ha,hb,n,rfl⟩);go_ret3;exact⟨a,b,f,rfl,ha,hb,n,rfl⟩
theorem size_of_bef{a s:cC}(h:dl a=bef (dl s)):a.size≤s.size:=by have h1:=congrArg List.length h;have h2:(bef (dl s)).length≤(dl s).length:=(List.takeWhile_sublist _).length_le;simp[dl]at h1 h2;omega
theorem size_of_aft{a s:cC}(h:dl a=aft (dl s)):a.size≤s.size:=by
 have h1:=congrArg List.length h;have h2:(aft (dl s)).length≤(dl s).length:=by unfold aft;have h3:(List.dropWhile (λc=>c != 120) (dl s)).length≤(dl s).length:=(List.dropWhile_sublist _).length_le;rw[List.length_drop];omega
 simp[dl]at h1 h2;omega
theorem bdn{B:Nat}{a w:World}(h:Below B a w)(n:Nat):Below B a (w.drewN n):=⟨h.os,h.tape,h.output,h.size,h.block⟩
def both:Option Int->Option Int->Option (Int×Int)
 |some c,some n=>some (c,n)
 |_,_=>none
theorem pr_both(p:List UInt8):pr p=both (pn 20 (bef p)) (pn 1000000 (aft p)):=by unfold pr;cases pn 20 (bef p)<;>cases pn 1000000 (aft p)<;>rfl
theorem prule_any(s:cC)(w:World)(hs:s.size≤140737488355328):
 Rc 115 #[.t s] w (.tuple #[.agg #[.i ((pr (dl s)).getD (0,0)).1,.i ((pr (dl s)).getD (0,0)).2],.bool (pr (dl s)).isSome]) λw'=>Below w.heap.size w w':=by
 obtain⟨x,hx⟩:=eX (pn 20 (bef (dl s)));obtain⟨y,hy⟩:=eX (pn 1000000 (aft (dl s)));have HX:=Hd hx;have HY:=Hd hy;rw[pr_both,hx,hy];clear hx hy;cases x with
 |none=>
  rw[show both none y=none by cases y<;>rfl];go_enter Tryz.func115,Tryz.ntmps115;go_wp2_with fail;refine(cut_any _ _ hs).mono ?_;rintro e w' ⟨a,b,f,rfl,ha,hb,n,rfl⟩;have ha':=size_of_bef ha;have hb':=size_of_aft hb;have hx':pn 20 a.data.toList=none:=by rw[show a.data.toList=_ from ha];exact HX.o
  have hy':pn 1000000 b.data.toList=y:=by rw[show b.data.toList=_ from hb];exact HY.o
  clear ha hb;go_wp2_with fail;refine(pnum_any _ _ _ (by omega) (by decide) (by decide)).mono ?_;rintro e w' ⟨rfl,rfl⟩;rw[hx'];go_wp2_with fail;refine(pnum_any _ _ _ (by omega) (by decide) (by decide)).mono ?_;rintro e w' ⟨rfl,rfl⟩;rw[hy'];go_wp2;exact bodyPost_ret (v:=.tuple #[.agg #[.i 0,.i 0],.bool false]) (by simp[results,Tryz.results82,go_sem]) rfl ⟨rfl,((bdn ((Below.refl _ _).alloc (Nat.le_refl _) _) n).setCell (by simp) _).setCell (by simp) _⟩
 |some c=>
  cases y with
  |none=>
   go_enter Tryz.func115,Tryz.ntmps115;go_wp2_with fail;refine(cut_any _ _ hs).mono ?_;rintro e w' ⟨a,b,f,rfl,ha,hb,n,rfl⟩;have ha':=size_of_bef ha;have hb':=size_of_aft hb;have hx':pn 20 a.data.toList=some c:=by rw[show a.data.toList=_ from ha];exact HX.o
   have hy':pn 1000000 b.data.toList=none:=by rw[show b.data.toList=_ from hb];exact HY.o
   clear ha hb;go_wp2_with fail;refine(pnum_any _ _ _ (by omega) (by decide) (by decide)).mono ?_;rintro e w' ⟨rfl,rfl⟩;rw[hx'];go_wp2_with fail;refine(pnum_any _ _ _ (by omega) (by decide) (by decide)).mono ?_;rintro e w' ⟨rfl,rfl⟩;rw[hy'];go_wp2;exact bodyPost_ret (v:=.tuple #[.agg #[.i 0,.i 0],.bool false]) (by simp[results,Tryz.results82,go_sem]) rfl ⟨rfl,((bdn ((Below.refl _ _).alloc (Nat.le_refl _) _) n).setCell (by simp) _).setCell (by simp) _⟩
  |some q=>
   go_enter Tryz.func115,Tryz.ntmps115;go_wp2_with fail;refine(cut_any _ _ hs).mono ?_;rintro e w' ⟨a,b,f,rfl,ha,hb,n,rfl⟩;have ha':=size_of_bef ha;have hb':=size_of_aft hb;have hx':pn 20 a.data.toList=some c:=by rw[show a.data.toList=_ from ha];exact HX.o
   have hy':pn 1000000 b.data.toList=some q:=by rw[show b.data.toList=_ from hb];exact HY.o
   clear ha hb;go_wp2_with fail;refine(pnum_any _ _ _ (by omega) (by decide) (by decide)).mono ?_;rintro e w' ⟨rfl,rfl⟩;rw[hx'];go_wp2_with fail;refine(pnum_any _ _ _ (by omega) (by decide) (by decide)).mono ?_;rintro e w' ⟨rfl,rfl⟩;rw[hy'];go_wp2;exact bodyPost_ret (v:=.tuple #[.agg #[.i c,.i q],.bool true]) (by simp[results,Tryz.results82,go_sem]) rfl ⟨rfl,((bdn ((Below.refl _ _).alloc (Nat.le_refl _) _) n).setCell (by simp) _).setCell (by simp) _⟩
theorem Gg:(Tryz.prog.info? 9).map (λi=>(i.zero,i.size,i.bytes))=some (some (.t ByteArray.empty),1,16):=by kernel_rfl
theorem spN_hit(k:Nat)(p r:List UInt8)(hp:32∉p):spN (k+1) (p++32::r)=p::spN k r:=by have htw:=tw_app 32 p r hp;rw[show spN (k+1) (p++32::r)=if 32∈(p++32::r)then(p++32::r).takeWhile (λc=>c != 32)::spN k (((p++32::r).dropWhile (λc=>c != 32)).drop 1)else[p++32::r] from rfl,if_pos (by simp),htw.1,htw.2];rfl
theorem spN_miss(k:Nat)(t:List UInt8)(h:32∉t):spN k t=[t]:=by
 cases k with
 |zero=>rfl
 |succ k=>rw[show spN (k+1) t=if 32∈t then t.takeWhile (λc=>c != 32)::spN k ((t.dropWhile (λc=>c != 32)).drop 1)else[t] from rfl,if_neg h]
theorem gsplit_any(s:cC)(w:World)(N:Nat)(hN:N=min 5 (s.size+1))(hs:s.size≤140737488355328):
 Cl 155 #[.t s,.t ⟨#[32]⟩,.i 0,.i 5] w λe w'=>∃ps:List cC,ps.map dl=spN (N-1) (dl s)∧ps.length≤N∧(∀p∈ps,p.size≤s.size)∧
  e=.returned (.slice (some (Ad w.heap.size 0)) ps.length N)∧w'=w.alloc (.cells (Lib.cellsOf ps N) 9):=by
 have hN1:1≤N:=by omega
 have sW:N≤5:=by omega
 have hmin:min (5:Int) ((s.size:Int)+1)=(N:Int):=by omega
 have hmk:=run_make_row' (P:=Tryz.prog) 34 9 (.t ByteArray.empty) 16 Tryz.underlying34 Gg rfl .i64 .i64 N (by omega) (by omega);clear hN;go_enter Tryz.func155,Tryz.ntmps155;go_wp2;clear hmk hmin;go_loopg [0,10] (N-1) (λg s0 s10 wr=>∃(done:List cC)(rest:cC),s0=.string rest∧s10=.i done.length∧done.length≤N-1∧g=N-1-done.length∧rest.size≤s.size∧
  wr=w.alloc (.cells (Lib.cellsOf done N) 9)∧Hid (done.map dl++spN (N-1-done.length) (dl rest)=spN (N-1) (dl s))∧Hid (∀p∈done,p.size≤s.size))
 case atStart=>exact⟨[],s,rfl,rfl,Nat.zero_le _,rfl,Nat.le_refl _,by rw[Lib.cellsOf_nil],rfl,λ_ h=>by cases h⟩
 obtain⟨done,rest,rfl,rfl,hd,rfl,hrs,rfl,HS,HZ⟩:=hrel;have hnext:(Lib.cellsOf done N)[done.length]?=some (.t ByteArray.empty):=Lib.cellsOf_next (by omega);have fin:spN (N-1-done.length) (dl rest)=[dl rest]->(done++[rest]).map dl=spN (N-1) (dl s)∧(done++[rest]).length≤N∧(∀p∈done++[rest],p.size≤s.size)∧(Lib.cellsOf done N).setIfInBounds done.length (.t rest)=Lib.cellsOf (done++[rest]) N:=λh=>by
  have e:=HS.o;rw[h]at e;refine⟨by rw[<-e];simp,by simp;omega,?_,Lib.cellsOf_set (by omega) rest⟩;intro p hp;rcases List.mem_append.1 hp with hp|hp
  .exact HZ.o p hp
  simp at hp;subst hp;exact hrs
 have FIN:Hid _:=fin;clear fin;by_cases hlt:done.length<N-1
 .have hltz:((done.length:Nat):Int)<(N:Int)-1:=by omega
  rcases ib_cases 32 (dl rest)with⟨hi,hn⟩|⟨p,r,hl,hp,hi⟩
  .go_wp2_with (first|(go_at_call 185;refine(index_any rest 32 _).mono ?_;rintro e w' ⟨rfl,hw⟩;rw[hw,show Lib.indexByte rest.data.toList 32=_ from hi]));go_ret;obtain⟨f1,f2,f3,f4⟩:=FIN.o (spN_miss _ _ hn);exact⟨done++[rest],f1,f2,f3,by first|(simp;done)|(congr 2<;>simp),by rw[<-f4]⟩
  have hsz:p.length+1≤rest.size:=by have:=congrArg List.length hl;simp[dl]at this;omega
  have c0:¬((p.length:Int)<0):=by omega
  have c1:(0:Int)≤↑p.length:=by omega
  have c2:(↑p.length:Int)≤↑rest.size:=by omega
  have c3:(0:Int)≤↑p.length+1:=by omega
  have c4:(↑p.length+1:Int)≤↑rest.size:=by omega
  have HL:=Hd hl;clear hl;go_wp2_with (first|(go_at_call 185;refine(index_any rest 32 _).mono ?_;rintro e w' ⟨rfl,hw⟩;rw[hw,show Lib.indexByte rest.data.toList 32=_ from hi]));go_roundg (N-1-(done.length+1))
  case measure=>omega
  have hl:=HL.o;refine⟨done++[rest.extract 0 p.length],rest.extract (p.length+1) rest.size,rfl,by simp,by simp;omega,by simp,by rw[ByteArray.size_extract];omega,by rw[<-Lib.cellsOf_set (by omega)],?_,?_⟩
  .show _=_;rw[<-HS.o,show N-1-done.length=(N-1-(done.length+1))+1 by omega,hl,spN_hit _ p r hp];have e1:dl (rest.extract 0 p.length)=p:=by rw[extract_dl,hl];simp
   have e2:dl (rest.extract (p.length+1) rest.size)=r:=by rw[extract_dl,List.take_of_length_le (by simp[dl]),hl];simp
   simp[e1,e2]
  intro q hq;rcases List.mem_append.1 hq with hq|hq
  .exact HZ.o q hq
  simp at hq;subst hq;rw[ByteArray.size_extract];omega
 have hltz:¬(((done.length:Nat):Int)<(N:Int)-1):=by omega
 go_wp2;go_ret;obtain⟨f1,f2,f3,f4⟩:=FIN.o (by rw[show N-1-done.length=0 by omega];rfl);exact⟨done++[rest],f1,f2,f3,by first|(simp;done)|(congr 2<;>simp),by rw[<-f4]⟩
theorem splitn_any(s:cC)(w:World)(N:Nat)(hN:N=min 5 (s.size+1))(hs:s.size≤140737488355328):
 Cl 114 #[.t s,.t ⟨#[32]⟩,.i 5] w λe w'=>∃ps:List cC,ps.map dl=spN (N-1) (dl s)∧ps.length≤N∧(∀p∈ps,p.size≤s.size)∧
  e=.returned (.slice (some (Ad w.heap.size 0)) ps.length N)∧w'=w.alloc (.cells (Lib.cellsOf ps N) 9):=by
 have HN:=gsplit_any s w N hN hs;clear hN;go_enter Tryz.func114,Tryz.ntmps114;go_wp2_with (go_at_call 155;refine HN.mono ?_;rintro e w' ⟨ps,h1,h2,h3,rfl,hw⟩;rw[hw]);go_ret;exact⟨ps,h1,h2,h3,rfl,rfl⟩
end Go.Proofs.YtjceeemlilnplaaGreatDoor.Gp
