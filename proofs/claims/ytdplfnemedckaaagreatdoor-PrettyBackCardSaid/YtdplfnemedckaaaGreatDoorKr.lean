/-
  Kr: Expr, Expr2, Expr3, Expr4, Expr5, Stmt, Block, Format. Walks and laws that the statement's proof is made of. No condition of its own.
-/
import Derived.Test.YtdplfnemedckaaaGreatDoorKb
import Derived.Outline
import Derived.Deep.QuietTactic
import Derived.BigQuiet
namespace Go.Proofs.YtdplfnemedckaaaGreatDoor
open Go.RowKit
theorem ExV.low {F:Nat→Prop} {w w':World} (hb:Below w.heap.size w w'):∀ (d:Nat) (x:Ex) (v:Value),ExV F w d x v→ExV (fun k=>k<w'.heap.size) w' d x v
 | 0,_,_,h=>h
 | d+1,.mk k o a l s xs,v,⟨A,c,hv,hc,h⟩=>⟨A,c,hv,hc,fun i x hi=>by
   obtain ⟨g,off,c0,c1,c2,c3,c4,c5,hA,hF,h0,h1,h2,h3,h4,h5,hx⟩:=h i x hi
   have hlt:=World.block_lt_of_cell? _ _ h0
   exact ⟨g,off,c0,c1,c2,c3,c4,c5,hA,Nat.lt_of_lt_of_le hlt hb.size,hold hb h0,hold hb h1,hold hb h2,hold hb h3,hold hb h4,hold hb h5,ExV.low hb d x _ hx⟩⟩
end Go.Proofs.YtdplfnemedckaaaGreatDoor
namespace Go.Proofs.YtdplfnemedckaaaGreatDoor
open Go.RowKit
def jl (l:List z03):z03:=([44,32]:z03).intercalate l
theorem z7D (sep x y:z03) (r:List z03):sep.intercalate (x :: y :: r)=x++sep++sep.intercalate (y :: r):=by simp [List.intercalate,List.intersperse]
end Go.Proofs.YtdplfnemedckaaaGreatDoor
namespace Go.Proofs.YtdplfnemedckaaaGreatDoor
open Go.RowKit
theorem z4Z (n:Nat) (z:Int) (w:World) (hz:z=(n:Int)) (hn:n<9223372036854775808):Calls Tryz.prog 13 #[.int .i64 z] w (z39 (numL n) w):=by
 subst hz
 exact zdp n w hn
def za8 (f:FuncId) (args:Array Value) (l:z03) (W:World):Prop:=∀ w',Below W.heap.size W w'→Calls Tryz.prog f args w' (z39 l w')
theorem za8.next {f:FuncId} {args:Array Value} {l:z03} {w W:World} (h:za8 f args l w) (hb:Below w.heap.size w W):za8 f args l W:=fun w' h'=>h w' (z0d hb h')
theorem za8.at_ {f:FuncId} {args:Array Value} {l:z03} {w W:World} (h:za8 f args l w) (hb:Below w.heap.size w W):Calls Tryz.prog f args W (z39 l W):=h W hb
theorem zbr {n m:Nat} (h:n≤m) (hm:m≤9223372036854775807):(9223372036854775807<n)=False:=by simp; omega
end Go.Proofs.YtdplfnemedckaaaGreatDoor
namespace Go.Proofs.YtdplfnemedckaaaGreatDoor
open Go.RowKit
end Go.Proofs.YtdplfnemedckaaaGreatDoor
namespace Go.Proofs.YtdplfnemedckaaaGreatDoor
open Go.RowKit
theorem RowE.low {F:Nat→Prop} {w w':World} {d:Nat} {xs:List Ex} {A:Option Addr} {c:Nat} (h:RowE F w d xs A c) (hb:Below w.heap.size w w'):RowE (fun k=>k<w'.heap.size) w' d xs A c :=
 ⟨h.1,fun i x hi=>by
  obtain ⟨g,off,c0,c1,c2,c3,c4,c5,hA,hF,h0,h1,h2,h3,h4,h5,hx⟩:=h.2 i x hi
  exact ⟨g,off,c0,c1,c2,c3,c4,c5,hA,Nat.lt_of_lt_of_le (World.block_lt_of_cell? _ _ h0) hb.size,hold hb h0,hold hb h1,hold hb h2,hold hb h3,hold hb h4,hold hb h5,ExV.low hb d x _ hx⟩⟩
theorem z7E {α:Type} {l:List α} (h:l.length=2):∃ a b,l=[a,b]:=by
 match l,h with
 | [a,b],_=>exact ⟨a,b,rfl⟩
end Go.Proofs.YtdplfnemedckaaaGreatDoor
namespace Go.Proofs.YtdplfnemedckaaaGreatDoor
open Go.RowKit
theorem StV.low {F:Nat→Prop} {w w':World} {D:Nat} (hb:Below w.heap.size w w'):∀ (d:Nat) (x:St) (v:Value),StV F w D d x v→StV (fun k=>k<w'.heap.size) w' D d x v
 | 0,_,_,h=>h
 | d+1,.mk k l s es ts us,v,⟨eA,ec,tA,tc,uA,uc,hv,he,⟨h1,h2⟩,h3,h4⟩=>⟨eA,ec,tA,tc,uA,uc,hv,he.low hb,⟨h1,fun i x hi=>by
   obtain ⟨g,off,c0,c1,c2,c3,c4,c5,hA,hF,e0,e1,e2,e3,e4,e5,hx⟩:=h2 i x hi
   exact ⟨g,off,c0,c1,c2,c3,c4,c5,hA,Nat.lt_of_lt_of_le (World.block_lt_of_cell? _ _ e0) hb.size,hold hb e0,hold hb e1,hold hb e2,hold hb e3,hold hb e4,hold hb e5,StV.low hb d x _ hx⟩⟩,h3,fun i x hi=>by
   obtain ⟨g,off,c0,c1,c2,c3,c4,c5,hA,hF,e0,e1,e2,e3,e4,e5,hx⟩:=h4 i x hi
   exact ⟨g,off,c0,c1,c2,c3,c4,c5,hA,Nat.lt_of_lt_of_le (World.block_lt_of_cell? _ _ e0) hb.size,hold hb e0,hold hb e1,hold hb e2,hold hb e3,hold hb e4,hold hb e5,StV.low hb d x _ hx⟩⟩
theorem RowS.low {F:Nat→Prop} {w w':World} {D d:Nat} {ts:List St} {A:Option Addr} {c:Nat} (hb:Below w.heap.size w w') (h:RowS F w D d ts A c):RowS (fun k=>k<w'.heap.size) w' D d ts A c :=
 ⟨h.1,fun i x hi=>by
   obtain ⟨g,off,c0,c1,c2,c3,c4,c5,hA,hF,e0,e1,e2,e3,e4,e5,hx⟩:=h.2 i x hi
   exact ⟨g,off,c0,c1,c2,c3,c4,c5,hA,Nat.lt_of_lt_of_le (World.block_lt_of_cell? _ _ e0) hb.size,hold hb e0,hold hb e1,hold hb e2,hold hb e3,hold hb e4,hold hb e5,StV.low hb d x _ hx⟩⟩
def valL (D:Nat) (es:List Ex) (i:Nat):z03:=match es[i]? with | some x=>fmtE D x | none=>[]
def stL (D:Nat) (B:List St→z03→z03) (ind:z03):St→z03
 | .mk k _ s es tt uu =>
  ind++(if k=1 then [118,97,114,32]++s.data.toList++[32,61,32]++valL D es 0++[59]
   else if k=2 then s.data.toList++[32,61,32]++valL D es 0++[59]
   else if k=3 then s.data.toList++[91]++valL D es 0++[93,32,61,32]++valL D es 1++[59]
   else if k=6 then [114,101,116,117,114,110,32]++valL D es 0++[59]
   else if k=7 then [112,114,105,110,116,32]++valL D es 0++[59]
   else if k=8 then [99,97,108,108,32]++valL D es 0++[59]
   else if k=5 then [119,104,105,108,101,32]++valL D es 0++[32,123,10]++B tt (ind++[9])++ind++[125]
   else if k=4 then [105,102,32]++valL D es 0++[32,123,10]++B tt (ind++[9])++ind++[125]++(if uu.length=0 then [] else [32,101,108,115,101,32,123,10]++B uu (ind++[9])++ind++[125])
   else [])++[10]
def fmtB (D:Nat):Nat→List St→z03→z03
 | 0,_,_=>[]
 | d+1,ts,ind=>ts.flatMap (stL D (fmtB D d) ind)
end Go.Proofs.YtdplfnemedckaaaGreatDoor
namespace Go.Proofs.YtdplfnemedckaaaGreatDoor
open Go.RowKit
end Go.Proofs.YtdplfnemedckaaaGreatDoor
namespace Go.Proofs.YtdplfnemedckaaaGreatDoor
open Go.RowKit
def fmtG (x:ByteArray × Int):z03:=[103,108,111,98,97,108,32]++x.1.data.toList++(if 0<x.2 then [91]++numL x.2.toNat++[93] else [])++[59,10]
def fmtF (D d:Nat) (f:Fn):z03:=[102,117,110,99,32]++f.name.data.toList++[40]++jl (f.params.map (·.data.toList))++[41,32,123,10]++fmtB D d f.body [9]++[125,10]
def fmtP (D d:Nat) (gl:List (ByteArray × Int)) (fl:List Fn):z03:=gl.flatMap fmtG++fl.flatMap (fmtF D d)
end Go.Proofs.YtdplfnemedckaaaGreatDoor
