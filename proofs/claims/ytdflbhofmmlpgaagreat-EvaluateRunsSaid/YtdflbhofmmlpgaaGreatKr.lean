/-
  Kr: Expr, Expr2, Expr3, Expr4, Expr5, Stmt, Block, Format. Part of the proof. No condition.
-/
import Derived.Test.YtdflbhofmmlpgaaGreatKb
set_option maxRecDepth 100000
set_option maxHeartbeats 8000000
namespace Go.Proofs.YtdflbhofmmlpgaaGreat
open Go.RowKit
theorem ExV.low {F:Nat->Prop} {w w':World} (hb:Below w.heap.size w w'):∀ (d:Nat) (x:Ex) (v:Value),ExV F w d x v->ExV (fun k=>k<w'.heap.size) w' d x v
 | 0,_,_,h=>h
 | d+1,.mk k o a l s xs,v,⟨A,c,hv,hc,h⟩=>⟨A,c,hv,hc,fun i x hi=>by
   obtain ⟨g,off,c0,c1,c2,c3,c4,c5,hA,hF,h0,h1,h2,h3,h4,h5,hx⟩:=h i x hi;have hlt:=q_k _ _ h0;exact ⟨g,off,c0,c1,c2,c3,c4,c5,hA,q_1 hlt hb.size,hold hb h0,hold hb h1,hold hb h2,hold hb h3,hold hb h4,hold hb h5,ExV.low hb d x _ hx⟩⟩
def jl (l:List z0e):z0e:=([44,32]:z0e).intercalate l
theorem z46 (n:Nat) (z:Int) (w:World) (hz:z=(n:Int)) (hn:n<9223372036854775808):Calls Tryz.prog 32 #[.int .i64 z] w (z8l (numL n) w):=by
 subst hz;exact zaX n w hn
theorem z9q {n m:Nat} (h:n<=m) (hm:m<=9223372036854775807):(9223372036854775807<n)=False:=by simp; omega
theorem RowE.low {F:Nat->Prop} {w w':World} {d:Nat} {xs:List Ex} {A:Option Addr} {c:Nat} (h:RowE F w d xs A c) (hb:Below w.heap.size w w'):RowE (fun k=>k<w'.heap.size) w' d xs A c :=
 ⟨h.1,fun i x hi=>by
  obtain ⟨g,off,c0,c1,c2,c3,c4,c5,hA,hF,h0,h1,h2,h3,h4,h5,hx⟩:=h.2 i x hi;exact ⟨g,off,c0,c1,c2,c3,c4,c5,hA,q_1 (q_k _ _ h0) hb.size,hold hb h0,hold hb h1,hold hb h2,hold hb h3,hold hb h4,hold hb h5,ExV.low hb d x _ hx⟩⟩
theorem StV.low {F:Nat->Prop} {w w':World} {D:Nat} (hb:Below w.heap.size w w'):∀ (d:Nat) (x:St) (v:Value),StV F w D d x v->StV (fun k=>k<w'.heap.size) w' D d x v
 | 0,_,_,h=>h
 | d+1,.mk k l s es ts us,v,⟨eA,ec,tA,tc,uA,uc,hv,he,⟨h1,h2⟩,h3,h4⟩=>⟨eA,ec,tA,tc,uA,uc,hv,he.low hb,⟨h1,fun i x hi=>by
   obtain ⟨g,off,c0,c1,c2,c3,c4,c5,hA,hF,e0,e1,e2,e3,e4,e5,hx⟩:=h2 i x hi;exact ⟨g,off,c0,c1,c2,c3,c4,c5,hA,q_1 (q_k _ _ e0) hb.size,hold hb e0,hold hb e1,hold hb e2,hold hb e3,hold hb e4,hold hb e5,StV.low hb d x _ hx⟩⟩,h3,fun i x hi=>by
   obtain ⟨g,off,c0,c1,c2,c3,c4,c5,hA,hF,e0,e1,e2,e3,e4,e5,hx⟩:=h4 i x hi;exact ⟨g,off,c0,c1,c2,c3,c4,c5,hA,q_1 (q_k _ _ e0) hb.size,hold hb e0,hold hb e1,hold hb e2,hold hb e3,hold hb e4,hold hb e5,StV.low hb d x _ hx⟩⟩
theorem RowS.low {F:Nat->Prop} {w w':World} {D d:Nat} {ts:List St} {A:Option Addr} {c:Nat} (hb:Below w.heap.size w w') (h:RowS F w D d ts A c):RowS (fun k=>k<w'.heap.size) w' D d ts A c :=
 ⟨h.1,fun i x hi=>by
   obtain ⟨g,off,c0,c1,c2,c3,c4,c5,hA,hF,e0,e1,e2,e3,e4,e5,hx⟩:=h.2 i x hi;exact ⟨g,off,c0,c1,c2,c3,c4,c5,hA,q_1 (q_k _ _ e0) hb.size,hold hb e0,hold hb e1,hold hb e2,hold hb e3,hold hb e4,hold hb e5,StV.low hb d x _ hx⟩⟩
end Go.Proofs.YtdflbhofmmlpgaaGreat
