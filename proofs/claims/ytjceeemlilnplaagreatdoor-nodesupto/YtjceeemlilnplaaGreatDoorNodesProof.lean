import Derived.Test.YtjceeemlilnplaaGreatDoorM51
import Derived.Test.YtjceeemlilnplaaGreatDoorM53
import Derived.Test.YtjceeemlilnplaaGreatDoorCards
import Derived.Test.YtjceeemlilnplaaGreatDoorTie
import Derived.Deep.DeepHandedRow
import Derived.Lay
import Derived.ChangeMaps
set_option maxRecDepth 100000
set_option maxHeartbeats 12800000
set_option linter.all false
namespace Go.Proofs.YtjceeemlilnplaaGreatDoor
open Go.ChangeShapes Go.WideShapes Go.ChangeAt Go.RowKit Go.Deep
open Go.ChangeMaps (open_string shut_string)
theorem Em(c:Cg)(a0 a1 a2:Int)(t:cC)(la:Int)(so:Option Addr)(ops:List Hy)(cap:Nat)(w:World)(hop:AP w so ops cap)(hc:c.SY)(hg:c.gr.size≤2000000)(ht:t.size≤2000000)(ha:In64 a0∧In64 a1∧In64 a2)(hla:In64 la):
 Cl 3 #[.agg c.cs,.agg #[.i a0,.i a1,.i a2],.string t,.i la,.slice so ops.length cap] w λe w'=>e=.returned (.bool true)∧Below w.heap.size w w':=by
 refine(Hz c a0 a1 a2 t la so ops cap w hop λW=>?_).mono ?_
 .refine(Hg c a0 a1 a2 t la W hc hg ht ha hla).mono ?_;rintro e w' ⟨L,A,V,m,he,h1,h2,h3,h4⟩;exact⟨L.nb,he,L,A,V,m,⟨rfl,h2⟩,h1,h3,h4⟩
 rintro e w' ⟨he,f⟩;exact⟨he,f.below (eh _) (by simp)⟩
theorem rR(H:Type)(enc:TypeId×Value->H)(W:World)(base:Nat)(args:Array Value)(ds gs:List (DataW H))(before:List MemPlace)
 (hval:∀(j:Nat)t v,Tryz.f3.params[j]?=some t->args[j]?=some v->Value.okWide Tryz.prog W .any base t v)
 (hW:DataW.Whole enc Tryz.prog Tryz.f3.params.toList Rows.nodesSpec.vars false W args.toList ds gs before)(hk:Rows.uptoSmall H (ds++gs)=true):
 Cl 3 args W λe W'=>∃v,e=.returned v∧Rows.nodesSpec.post enc Tryz.prog Tryz.f3 false true false false W args v W':=by
 have hW':=hW;obtain⟨p,q,hA0,hV,rfl,hfz,hnd⟩:=hW;have hA:DataW.TrodAll enc Tryz.prog W 0 (λ_=>true) true Tryz.f3.params.toList args.toList ds p:=hA0;rw[Tryz.params3]at hA hval;obtain⟨v0,vs0,d0,ds0,p0,q0,hargs,rfl,rfl,h0,r0⟩:=trodAll_cons hA;obtain⟨v1,vs1,d1,ds1,p1,q1,rfl,rfl,rfl,h1,r1⟩:=trodAll_cons r0;obtain⟨v2,vs2,d2,ds2,p2,q2,rfl,rfl,rfl,h2,r2⟩:=trodAll_cons r1;obtain⟨v3,vs3,d3,ds3,p3,q3,rfl,rfl,rfl,h3,r3⟩:=trodAll_cons r2;obtain⟨v4,vs4,d4,ds4,p4,q4,rfl,rfl,rfl,h4,r4⟩:=trodAll_cons r3;obtain⟨rfl,rfl,rfl⟩:=trodAll_nil r4;obtain rfl:args=#[v0,v1,v2,v3,v4]:=by cases args;simp_all
 obtain⟨rfl,rfl⟩:=trodVars_none hV;have Xm:∀x∈p0,x.block<W.heap.size:=by obtain⟨m,hm⟩:=h0;exact DataW.trod_lt m _ _ _ hm
 have lt1:∀x∈p1,x.block<W.heap.size:=by obtain⟨m,hm⟩:=h1;exact DataW.trod_lt m _ _ _ hm
 have lt4:∀x∈p4,x.block<W.heap.size:=by obtain⟨m,hm⟩:=h4;exact DataW.trod_lt m _ _ _ hm
 obtain⟨cs0,rfl⟩:=okWide_struct Tryz.underlying23 (hval 0 23 v0 rfl rfl);obtain⟨cs1,rfl,z1⟩:=wC Tryz.underlying24 (hval 1 24 v1 rfl rfl);obtain⟨t,rfl,rfl,rfl,ht⟩:=open_string Tryz.underlying9 (hval 2 9 v2 rfl rfl) h2;obtain⟨la,rfl,rfl,rfl,w3⟩:=open_int Tryz.underlying3 (hval 3 3 v3 rfl rfl) h3;obtain⟨a4,aar,cap4,rfl⟩:=okWide_slice Tryz.underlying25 (hval 4 25 v4 rfl rfl);rw[cells24]at z1;obtain⟨c,rfl,hc,hcg⟩:=Ia h0;obtain⟨i0,i1,i2,rfl,hi⟩:=open_arr z1 h1;have hall:Rows.uptoBulkAll ([d0,d1,.lit (.string t.data.toList),.lit (.int .i64 la),d4]++[])≤1048576:=km hk;have hb0:=mI (d:=d0) (l:=[d0,d1,.lit (.string t.data.toList),.lit (.int .i64 la),d4]++[]) (by simp);have hb2:=mI (d:=.lit (.string t.data.toList)) (l:=[d0,d1,.lit (.string t.data.toList),.lit (.int .i64 la),d4]++[]) (by simp);have hb4:=mI (d:=d4) (l:=[d0,d1,.lit (.string t.data.toList),.lit (.int .i64 la),d4]++[]) (by simp);have htz:t.size≤2000000:=by simp only[Rows.uptoBulk,fk]at hb2;have e:t.data.size=t.size:=rfl;omega
 obtain⟨ops,hl,hop⟩:=yP h4 (by omega);subst hl;clear hA0 hk hfz;refine(Em c i0 i1 i2 t la a4 ops cap4 W hop hc (by omega) htz ⟨hi 0 (by omega),hi 1 (by omega),hi 2 (by omega)⟩ (bounds_i64 w3)).mono λe W'⟨he,VF⟩=>?_;subst he;exact⟨_,rfl,_,_,_,[],_,[],hW',trodAll_mk1 (shut_bool Tryz.underlying4 _),(trodAll_cons_mk (Below.trod laidOut (by kernel_rfl) (km (by kernel_rfl)) h0 VF Xm) (trodAll_cons_mk (Below.trod laidOut (by kernel_rfl) (km (by kernel_rfl)) h1 VF lt1) (trodAll_cons_mk (shut_string Tryz.underlying9 ht) (trodAll_cons_mk (shut_int Tryz.underlying3 w3) (trodAll_cons_mk (Below.trod laidOut (by kernel_rfl) (km (by kernel_rfl)) h4 VF lt4) trodAll_mk0))))),rfl,VF.frame _,λh=>by cases h⟩
theorem wD(os:Os)(started:os.Started)(H:Type)(enc:TypeId×Value->H)(F:Stop.Interp):
 ReturnsInHanded {} Tryz.checked os 3 .any ((Rows.OpenSpec.upto Rows.nodesSpec).preRow enc Tryz.prog Tryz.f3 Rows.nodesUptoRow.domain false Rows.nodesUptoRow.laid) (((Rows.OpenSpec.upto Rows.nodesSpec).at F).post enc Tryz.prog Tryz.f3 false true false false):=by
 refine returnsInHanded_of_row (C:=Tryz.checked) (s:=Rows.OpenSpec.upto Rows.nodesSpec) own started (by kernel_rfl) Tryz.func3
  (witness_row_at (enc:=enc) (C:=Tryz.checked) false (World.laidAll Tryz.prog os Rows.nodesUptoRow.laid) #[.agg #[.i 0,.i 0,.i 0,.i 0,.i 0,.i 0,.string ⟨#[]⟩,.i 0],.agg #[.i 0,.i 0,.i 0],.string ⟨#[]⟩,.i 0,.slice none 0 0] (World.laidAll_os _ _ _) (by kernel_rfl) (by kernel_rfl) (by kernel_rfl)
    (OpenSpec.preRow_of_cond 8 (x:=([.agg [.lit (.int .i64 0),.lit (.int .i64 0),.lit (.int .i64 0),.lit (.int .i64 0),.lit (.int .i64 0),.lit (.int .i64 0),.lit (.string []),.lit (.int .i64 0)],.agg [.lit (.int .i64 0),.lit (.int .i64 0),.lit (.int .i64 0)],.lit (.string []),.lit (.int .i64 0),.nil],[],[])) (by kernel_rfl) (by kernel_rfl) (λk hk=>by cases hk;kernel_rfl) (by kernel_rfl)
      (by rw[MakeChecks.laidMetH_plain _ _ _ (by kernel_rfl)];exact laidMet_laidAll _ (by kernel_rfl) (by kernel_rfl)))) ?_
 intro W base args ds gs before hval hW _ hcond _ _ _ _;exact rR H enc W base args ds gs before hval hW (hcond _ rfl)
theorem AU:Rows.NodesUptoSaid:=
 OpenClaim.holds_of_cond 3 Tryz.f3 rfl rfl rfl rfl rfl rfl rfl ⟨rfl,rfl,rfl,rfl,rfl⟩ rfl rfl rfl rfl rfl (by kernel_rfl) Tryz.func3 (by kernel_rfl)
  (km (by kernel_rfl)) (by unfold Func.isWrapper;first|(rw[if_pos (by decide+kernel)];kernel_rfl)|(rw[if_neg (by decide+kernel)];exact⟨rfl,rfl⟩))
  (λos started H enc _ F=>by rw[OpenClaim.pre_eq_preRow];exact wD os started H enc F)
theorem yQ(f:FuncId)(fn:Func)(hf:Tryz.pinned.checked.prog.funcNamed "tether/tetherlaw.Nodes" =some f)(hfn:Tryz.pinned.checked.prog.funcs[f]?=some fn):
 false=Tryz.pinned.checked.prog.looks []∧∀(j:Nat)t,fn.params[j]?=some t->Tryz.pinned.checked.prog.wantsStandIn t=false:=by
 obtain rfl:f=3:=Option.some.inj ((show Tryz.prog.funcNamed "tether/tetherlaw.Nodes" =some 3 by kernel_rfl).symm.trans hf)|>.symm;obtain rfl:fn=Tryz.f3:=(Option.some.inj (Tryz.func3.symm.trans hfn)).symm;refine⟨by kernel_rfl,λj t ht=>?_⟩;rw[Tryz.params3]at ht;have hm:t∈[23,24,9,3,25]:=by simpa using Array.mem_of_getElem? ht
 have hall:([23,24,9,3,25].all λu=>!Tryz.prog.wantsStandIn u)=true:=by kernel_rfl
 exact(show Tryz.prog.wantsStandIn t=false by simpa using ja.1 hall t hm)
theorem nodes_holds:Rows.NodesUptoCardSaid:=
 Claim7.holds_tied_plain_at .later [] _ _ _ _ AU (λ_ h=>by cases h) (by kernel_rfl) (λ_ h=>by cases h) nodesUpto_row_tie rfl ⟨rfl,rfl⟩ (by kernel_rfl) rfl yQ (by kernel_rfl)
#print axioms nodes_holds
end Go.Proofs.YtjceeemlilnplaaGreatDoor
