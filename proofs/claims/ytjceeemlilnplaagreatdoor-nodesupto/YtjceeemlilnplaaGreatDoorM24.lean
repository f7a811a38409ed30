import Derived.Test.YtjceeemlilnplaaGreatDoorM23
set_option maxRecDepth 100000
set_option maxHeartbeats 12800000
set_option linter.all false
namespace Go.Proofs.YtjceeemlilnplaaGreatDoor.Kp
open Go.RowKit Pl
def JL(z:Int):Bool:=decide (0≤z)&&decide (z≤1073741824)
def Vp(r:Int×Int):Bool:=decide (1≤r.1)&&decide (r.1≤20)&&decide (1≤r.2)&&decide (r.2≤1000000)
def oO(rs:List (Int×Int)):Bool:=decide (rs.length≤4)&&rs.all Vp
theorem drop_tm(zs:List Int)(k:Nat)(h:k<zs.length):zs.drop k=tm zs k::zs.drop (k+1):=by rw[List.drop_eq_getElem_cons h];simp[tm,h]
theorem drop_nil{α:Type}(zs:List α)(k:Nat)(h:¬k<zs.length):zs.drop k=[]:=List.drop_eq_nil_of_le (by omega)
theorem tmay_any(ao:Option Addr)(zs:List Int)(cap:Nat)(w:World)(h:Kn w ao zs cap)(hn:zs.length≤17592186044416):
 Rc 165 #[.slice ao zs.length cap] w (.bool (zs.all JL)) λw'=>w'=w:=by
 obtain⟨r,hr⟩:=eX (zs.all JL);rw[hr];have HR:=Hd hr;clear hr;go_enter Tryz.func165,Tryz.ntmps165;go_wp2;go_loop [7] (λi=>∃k:Nat,k≤zs.length∧i=.i k∧Hid ((zs.drop k).all JL=r)) (λi=>zs.length-(intOf i).toNat)
 case atStart=>exact⟨0,Nat.zero_le _,rfl,HR⟩
 obtain⟨k,hk,rfl,HK⟩:=hrel;clear HR;by_cases hlt:k<zs.length
 .obtain⟨b,off,rfl,hc⟩:=h.2 (by omega);have d1:=hc k hlt;have H:=HK.o;rw[drop_tm zs k hlt,List.all_cons]at H;obtain⟨x,hx⟩:=eX (tm zs k);rw[hx]at d1 H;clear hc h HK hx;by_cases hok:0≤x∧x≤1073741824
  .rw[show JL x=true by simp[JL,hok],Bool.true_and]at H;have HH:Hid _:=H;clear H;obtain⟨ok1,ok2⟩:=hok;go_wp2;go_round
   case rel=>exact⟨k+1,by omega,by go_num,HH⟩
   simp[intOf];omega
  rw[show JL x=false by simp[JL];omega,Bool.false_and]at H;subst H;rcases(show x<0∨(0≤x∧1073741824<x) by omega)with ok1|⟨ok1,ok2⟩;all_goals
   go_wp2;go_ret;exact⟨rfl,rfl⟩
 have H:=HK.o;rw[drop_nil zs k hlt]at H;simp only[List.all_nil]at H;subst H;clear HK h;go_wp2;go_ret;exact⟨rfl,rfl⟩
theorem rmay_any(ao:Option Addr)(rs:List (Int×Int))(cap:Nat)(w:World)(h:Wh w ao rs cap)(hn:rs.length≤17592186044416):
 Rc 166 #[.slice ao rs.length cap] w (.bool (oO rs)) λw'=>Below w.heap.size w w':=by
 by_cases h4:4<rs.length
 .rw[show oO rs=false by simp[oO];omega];have h4':(4:Int)<(rs.length:Int):=by omega
  go_enter Tryz.func166,Tryz.ntmps166;go_wp2;go_ret;exact⟨rfl,Below.refl _ _⟩
 have h4':¬(4:Int)<(rs.length:Int):=by omega
 obtain⟨r,hr⟩:=eX (rs.all Vp);rw[show oO rs=r by simp[oO,hr];omega];have HR:=Hd hr;clear hr;go_enter Tryz.func166,Tryz.ntmps166;go_wp2;go_loopw [10] (λi wr=>∃k:Nat,k≤rs.length∧i=.i k∧Below w.heap.size w wr∧Hid ((rs.drop k).all Vp=r)) (λi _=>rs.length-(intOf i).toNat)
 case atStart=>exact⟨0,Nat.zero_le _,rfl,Below.refl _ _,HR⟩
 obtain⟨k,hk,rfl,hb,HK⟩:=hrel;clear HR;by_cases hlt:k<rs.length
 .obtain⟨bb,off,rfl,hc⟩:=(h.below hb).2 (by omega);obtain⟨d1,d2⟩:=hc k hlt;have H:=HK.o;rw[List.drop_eq_getElem_cons hlt,List.all_cons]at H;obtain⟨x,hx⟩:=eX rs[k];rw[hx]at d1 d2 H;obtain⟨c,q⟩:=x;simp only at d1 d2;clear hc h HK hx;have hb1:∀o,Below w.heap.size w (wr.alloc o):=λo=>hb.alloc hb.size o;by_cases hok:1≤c∧c≤20∧1≤q∧q≤1000000
  .rw[show Vp (c,q)=true by simp[Vp];omega,Bool.true_and]at H;have HH:Hid _:=H;clear H;obtain⟨ok1,ok2,ok3,ok4⟩:=hok;go_wp2;go_roundw
   case rel=>exact⟨k+1,by omega,by go_num,hb1 _,HH⟩
   simp[intOf];omega
  rw[show Vp (c,q)=false by simp[Vp];omega,Bool.false_and]at H;subst H;rcases(show c<1∨(1≤c∧20<c)∨(1≤c∧c≤20∧q<1)∨(1≤c∧c≤20∧1≤q∧1000000<q) by omega)with ok1|⟨ok1,ok2⟩|⟨ok1,ok2,ok3⟩|⟨ok1,ok2,ok3,ok4⟩;all_goals
   go_wp2;go_ret;exact⟨rfl,hb1 _⟩
 have H:=HK.o;rw[drop_nil rs k hlt]at H;simp only[List.all_nil]at H;subst H;clear HK h;go_wp2;go_ret;exact⟨rfl,hb⟩
end Go.Proofs.YtjceeemlilnplaaGreatDoor.Kp
