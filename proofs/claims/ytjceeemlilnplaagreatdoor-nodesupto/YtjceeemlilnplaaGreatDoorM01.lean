import Derived.Test.YtjceeemlilnplaaGreatDoorProg
import Derived.Below
namespace Go.Value
abbrev i(x:Int):Value:=.int .i64 x
abbrev u(x:Int):Value:=.int .u8 x
abbrev p(b:Nat):Value:=.pointer (some ⟨b,0,none⟩)
abbrev t(x:ByteArray):Value:=.string x
end Go.Value
namespace Go.RowKit
theorem Hid.o{p:Prop}(h:Hid p):p:=h
theorem Hd{p:Prop}(h:p):Hid p:=h
theorem Hj2{a b:Prop}(x:a)(y:b):Hid (a∧b):=⟨x,y⟩
theorem Hj3{a b c:Prop}(x:a)(y:b)(z:c):Hid (a∧b∧c):=⟨x,y,z⟩
theorem Hj4{a b c d:Prop}(x:a)(y:b)(z:c)(u:d):Hid (a∧b∧c∧d):=⟨x,y,z,u⟩
theorem Hj5{a b c d e:Prop}(x:a)(y:b)(z:c)(u:d)(v:e):Hid (a∧b∧c∧d∧e):=⟨x,y,z,u,v⟩
theorem Hj6{a b c d e f:Prop}(x:a)(y:b)(z:c)(u:d)(v:e)(w:f):Hid (a∧b∧c∧d∧e∧f):=⟨x,y,z,u,v,w⟩
end Go.RowKit
namespace Go.Proofs.YtjceeemlilnplaaGreatDoor
abbrev Ad(b o:Nat):Addr:=⟨b,o,none⟩
abbrev cC:=ByteArray
abbrev cD(w:World)(b k:Nat)(v:Value):Prop:=w.cell? ⟨b,k,none⟩=some v
abbrev cE(w:World)(b k:Nat)(x:Int):Prop:=w.cell? ⟨b,k,none⟩=some (.i x)
abbrev Cl:=Calls Tryz.prog
abbrev Rc(f:FuncId)(a:Array Value)(w:World)(v:Value)(p:World->Prop):Prop:=Cl f a w λe w=>e=.returned v∧p w
theorem eX{α:Type}(a:α):∃x,a=x:=⟨a,rfl⟩
theorem eY{α:Type}(a:α):∃x,x=a:=⟨a,rfl⟩
end Go.Proofs.YtjceeemlilnplaaGreatDoor
