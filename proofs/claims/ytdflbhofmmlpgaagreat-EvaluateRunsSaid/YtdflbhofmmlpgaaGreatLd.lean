/-
  Ld: RsI. Part of the proof. No condition.
-/
import Derived.Test.YtdflbhofmmlpgaaGreatLc
set_option maxRecDepth 100000
set_option maxHeartbeats 8000000
namespace Go.Proofs.YtdflbhofmmlpgaaGreat
open Go.RowKit
theorem z4w:∀ d:Nat,z8c d
 | 0=>z6X (fun _ h=>by omega)
 | d+1=>z6X (fun d' h=>by
                   obtain rfl:d=d':=by omega
                   exact z4w d)
def rsFn (gl:GlL) (fl:List Fn) (f:Fn):Fn:=⟨f.name,f.line,f.params,rsB gl fl f.params f.body⟩
structure z4n (gl:GlL) (fl:List Fn):Prop where
 gn:gl.length<=32
 fn:1<=fl.length/\fl.length<=64
 main:∀ f:Fn,fl[0]?=some f->f.name=⟨#[109,97,105,110]⟩/\f.params=[]
 gd:∀ (i:Nat) (x:Zb × Int),gl[i]?=some x->z0S (gl.map (·.1)) x.1=some i
 fd:∀ (i:Nat) (f:Fn),fl[i]?=some f->z0S (gl.map (·.1)) f.name=none/\z0S (fl.map (·.name)) f.name=some i
 fs:∀ (i:Nat) (f:Fn),fl[i]?=some f->f.params.length<=6/\f.params.length+(vrL f.body).length<=32/\ntL f.body<=24/\fwB f.body/\f.body.length<=1000/\okB gl fl f.params f.body/\∀ (k:Nat) (q:Zb),f.params[k]?=some q->hasB (f.params.take k) q=false/\z0D gl fl q=0
theorem z94:(Tryz.prog.info? 68).map (fun i=>(i.zero,i.size,i.bytes))=some (some (.agg #[.string ⟨#[]⟩,.int .i64 0]),2,24):=by kernel_rfl
theorem z6j:∀ (gl:List (Zb × Int)) (i:Nat) (x:Zb × Int),gl[i]?=some x->(gl.flatMap fun x=>[Value.string x.1,.int .i64 x.2])[i * 2]?=some (.string x.1)/\(gl.flatMap fun x=>[Value.string x.1,.int .i64 x.2])[i * 2+1]?=some (.int .i64 x.2)
 | [],i,x,h=>by simp at h
 | a :: r,0,x,h=>by simp at h; subst h; simp
 | a :: r,i+1,x,h=>by
  simp only [List.getElem?_cons_succ] at h;have ih:=z6j r i x h;simp only [List.flatMap_cons];have e:∀ k,([Value.string a.1,.int .i64 a.2]++r.flatMap fun x=>[Value.string x.1,.int .i64 x.2])[k+2]?=(r.flatMap fun x=>[Value.string x.1,.int .i64 x.2])[k]?:=fun k=>by
   rw [List.getElem?_append_right (by simp)];simp
  rw [show (i+1) * 2=i * 2+2 by omega,show i * 2+2+1=(i * 2+1)+2 by omega,e,e];exact ih
theorem z6i:∀ (gl:List (Zb × Int)),(gl.flatMap fun x=>[Value.string x.1,.int .i64 x.2]).length=gl.length * 2
 | []=>rfl
 | a :: r=>by simp [z6i r]; omega
theorem z8J {gl:List (Zb × Int)} {j:Nat} {u:Value} (h:(gl.flatMap fun x=>[Value.string x.1,.int .i64 x.2])[j]?=some u):∃ x,gl[j / 2]?=some x/\((j % 2=0/\u=.string x.1)\/(j % 2=1/\u=.int .i64 x.2)):=by
 have hj:j<(gl.flatMap fun x=>[Value.string x.1,.int .i64 x.2]).length:=by
  rcases q_f j (gl.flatMap fun x=>[Value.string x.1,.int .i64 x.2]).length with h' | h'
  ·exact h'
  ·rw [q_j h'] at h; cases h
 rw [z6i] at hj;have hx:gl[j / 2]?=some (gl[j / 2]'(by omega)):=q_7 _;obtain ⟨e0,e1⟩:=z6j gl (j / 2) _ hx;refine ⟨_,hx,?_⟩;rcases (show j % 2=0\/j % 2=1 by omega) with h2 | h2
 ·have:j=j / 2 * 2:=by omega
  rw [this,e0] at h;injection h with h;exact .inl ⟨h2,h.symm⟩
 ·have:j=j / 2 * 2+1:=by omega
  rw [this,e1] at h;injection h with h;exact .inr ⟨h2,h.symm⟩
theorem z3y {F:Nat->Prop} {ops:Array Oper} {rest:List Oper} {o:Oper} {a:Act} {Q:Exit->Act->World->Prop} (w:World) (hgd:o.guard=none) (s x:Operand)
  (ho:o.op=.call { callee:=.builtin .append,args:=#[s,x],argTypes:=#[28,28] }) (gl:List (Zb × Int)) (gA:Option Addr) (n gc:Nat) (hn:n=gl.length) (hs:a.eval s=.slice none 0 0) (hx:a.eval x=.slice gA n gc) (hp:z0k F w gl gA gc) (hlen:n<=1000)
  (hk:∀ lA lc w',z0k (fun b=>w.heap.size<=b/\b<w'.heap.size) w' gl lA lc->Below w.heap.size w w'->wpList Tryz.prog ops Q rest (a.put o.dst (.slice lA n lc)) w') :
  wpList Tryz.prog ops Q (o :: rest) a w:=by
 subst hn;refine wpList_plain hgd fun K hK=>?_
 obtain ⟨i,hi,hz,hsz,hby⟩:=info_parts z94;have hnil:=World.ownsRow_nil w w.heap.size 68 2;rcases Nat.eq_zero_or_pos gl.length with h0 | hpos
 ·have hrun:(Builtin.append_ #[28,28] o.type #[.slice none 0 0,.slice gA gl.length gc]).run Tryz.prog w=.ok (.slice none 0 0) w:=by
   rw [h0];cases gA <;> simp [Builtin.append_,run_underlying Tryz.underlying28,sizeOf,typeInfo,hi,Builtin.lenOf,Builtin.firstCells,loadCells,loadCellsFrom]
  unfold Oper.wp;simp [execOp,ho,resolve,invoke,builtin,hs,hx,hrun,Result.andThen];have h2:=hk none 0 w ⟨by rw [h0]; exact q_2 _,fun i x h=>by rw [q_g h0] at h; simp at h⟩ (q_i _ _);rw [h0] at h2;exact hK _ _ h2
 ·obtain ⟨g,hA,_,_,_⟩:=hp.2 0 _ (q_7 hpos);subst hA;have hcell:∀ j x,gl[j]?=some x->w.cell? ⟨g,j * 2,none⟩=some (.string x.1)/\w.cell? ⟨g,j * 2+1,none⟩=some (.int .i64 x.2):=fun j x hj=>by
   obtain ⟨g',hg',_,e0,e1⟩:=hp.2 j x hj;injection hg' with hg';injection hg' with hg';subst hg';exact ⟨e0,e1⟩
  obtain ⟨v',w',hr,hown,hg,_,_⟩:=run_append_own_at (P:=Tryz.prog) w w.heap.size 28 o.type 68 i _ 2 24 Tryz.underlying28 hi hz hsz hby rfl (by decide) (.slice none 0 0) 0 [] hnil ⟨g,0,none⟩ gl.length gc (gl.flatMap fun x=>[.string x.1,.int .i64 x.2]) (z6i gl) (fun j u hu=>by
   rw [Addr.add_lit,Nat.zero_add];obtain ⟨x,hx,h | h⟩:=z8J hu
   ·rw [h.2,show j=j / 2 * 2 by omega]; exact (hcell _ _ hx).1
   ·rw [h.2,show j=j / 2 * 2+1 by omega]; exact (hcell _ _ hx).2) (fun u hu=>by
   obtain ⟨j,hj,e⟩:=List.mem_iff_getElem.1 hu;obtain ⟨x,_,h | h⟩:=z8J (by rw [q_7 hj]:(gl.flatMap fun x=>[Value.string x.1,.int .i64 x.2])[j]?=some _)
   ·rw [<- e,h.2]; rfl
   ·rw [<- e,h.2]; rfl) (by unfold maxLen; omega) (by omega) (q_2 _)
  simp only [Nat.zero_add,List.nil_append] at hown;obtain ⟨lA,lc,rfl⟩:=z0x hown;unfold Oper.wp;simp [execOp,ho,resolve,invoke,builtin,hs,hx,hr,Result.andThen];refine hK _ _ (hk lA lc w' ?_ ⟨hg.os,hg.tape,hg.output,hg.size,fun k hk=>hg.block k hk (fun e=>by cases e)⟩);rcases hown.2 with ⟨e,h0⟩ | ⟨b,cap,cur,e,hb,hh,hc,_⟩
  ·omega
  ·injection e with e1 e2 e3;subst e1 e3;refine ⟨hc,fun j x hj=>?_⟩;obtain ⟨f0,f1⟩:=z6j gl j x hj;have hcl:∀ k u,(gl.flatMap fun x=>[Value.string x.1,.int .i64 x.2])[k]?=some u->w'.cell? ⟨b,k,none⟩=some u:=fun k u hk=>by
    have hk2:k<(gl.flatMap fun x=>[Value.string x.1,.int .i64 x.2]).length:=by
     rcases q_f k (gl.flatMap fun x=>[Value.string x.1,.int .i64 x.2]).length with h' | h'
     ·exact h'
     ·rw [q_j h'] at hk; cases hk
    exact (hown.cellAt k (by have:=hown.1; omega)).trans hk
   exact ⟨b,rfl,⟨hb,(q_0.1 hh).1⟩,hcl _ _ f0,hcl _ _ f1⟩
def MFr (D d:Nat):z1H Fn:=fun F w f cs=>∃ pA pc bA bc,cs=[.string f.name,.int .i64 f.line,.slice pA f.params.length pc,.slice bA f.body.length bc]/\z0l F w f.params pA pc/\RowS F w D d f.body bA bc
theorem z2r (D d:Nat):(MFr D d).Keeps:=fun _ _ _ _ _ _ hFG hk ⟨pA,pc,bA,bc,h1,h2,h3⟩=>⟨pA,pc,bA,bc,h1,h2.keepR hFG hk,RowS.keep hFG hk h3⟩
theorem z15 {α:Type} {k:Nat} {T:TypeId} {V:z1H α} {base:Nat} {w w':World} {v:Value} {xs:List α} {L:List Value} (hV:V.Keeps) (h:GRow k T V base w v xs L) (hb:Below w.heap.size w w'):GRow k T V base w' v xs L :=
 ⟨z1j h.own (fun b hb'=>hb.block b (h.own.lt b hb').2),fun j x hj=>by
  obtain ⟨cs,q1,q2,q3⟩:=h.at_ j x hj;exact ⟨cs,q1,q2,hV _ _ _ _ _ _ (fun b hb'=>⟨hb'.1,q_1 hb'.2.1 hb.size,hb'.2.2⟩) (fun b hb'=>hb.block b hb'.2.1) q3⟩⟩
theorem z8M {D d base:Nat} {w:World} {A:Option Addr} {n c:Nat} {fl:List Fn} {L:List Value} (h:GRow 4 83 (MFr D d) base w (.slice A n c) fl L):z0R (fun b=>base<=b/\b<w.heap.size) w D d fl A c:=by
 have hr:=(h.row (z2r D d)).2;refine ⟨hr.1,fun i f hi=>?_⟩;obtain ⟨g,cs,hA,hg,_,hc,pA,pc,bA,bc,rfl,hp,hb⟩:=hr.2 i f hi;exact ⟨g,pA,pc,bA,bc,hA,hg,by simpa using hc 0 _ rfl,hc 1 _ rfl,hc 2 _ rfl,hc 3 _ rfl,hp,hb⟩
theorem z93:(Tryz.prog.info? 83).map (fun i=>(i.zero,i.size,i.bytes))=some (some (.agg #[.string ⟨#[]⟩,.int .i64 0,.slice none 0 0,.slice none 0 0]),4,72):=by kernel_rfl
structure ReR (w:World) (gA:Option Addr) (n gc:Nat) (fA:Option Addr) (m fc:Nat) (qg qf:Value) (wr:World):Prop where
 p:wr.heap[w.heap.size]?=some (.cells #[.slice gA n gc,.slice fA m fc] 31 (0,0))
 q:wr.heap[w.heap.size+1]?=some (.cells #[qg,qf] 31 (0,0))
 lo:Below w.heap.size w wr
section
variable {w wr wd:World} {gA fA:Option Addr} {n gc m fc:Nat} {qg qf:Value}
theorem ReR.below (h:ReR w gA n gc fA m fc qg qf wr) (hb:Below wr.heap.size wr wd):ReR w gA n gc fA m fc qg qf wd :=
 ⟨(hb.block _ (q_0.1 h.p).1).trans h.p,(hb.block _ (q_0.1 h.q).1).trans h.q,h.lo.trans (hb.mono h.lo.size)⟩
theorem ReR.other {b:Nat} (h:ReR w gA n gc fA m fc qg qf wr) (hg:wr.grownBy wd (some b)) (hb:w.heap.size+2<=b):ReR w gA n gc fA m fc qg qf wd :=
 ⟨z04 hg (by omega) h.p,z04 hg (by omega) h.q,h.lo.trans (z05 hg (fun k hk=>by injection hk with hk; omega) h.lo.size)⟩
theorem ReR.set0 (v:Value) (h:ReR w gA n gc fA m fc qg qf wr):ReR w gA n gc fA m fc v qf (wr.setCell ⟨w.heap.size+1,0,none⟩ v)/\wr.grownBy (wr.setCell ⟨w.heap.size+1,0,none⟩ v) (some (w.heap.size+1)):=by
 have hg:wr.grownBy (wr.setCell ⟨w.heap.size+1,0,none⟩ v) (some (w.heap.size+1)):=z03 wr ⟨w.heap.size+1,0,none⟩ _;exact ⟨⟨z04 hg (by omega) h.p,z0a (i:=0) _ h.q,h.lo.trans (z05 hg (fun k hk=>by injection hk with hk; omega) h.lo.size)⟩,hg⟩
theorem ReR.set1 (v:Value) (h:ReR w gA n gc fA m fc qg qf wr):ReR w gA n gc fA m fc qg v (wr.setCell ⟨w.heap.size+1,1,none⟩ v)/\wr.grownBy (wr.setCell ⟨w.heap.size+1,1,none⟩ v) (some (w.heap.size+1)):=by
 have hg:wr.grownBy (wr.setCell ⟨w.heap.size+1,1,none⟩ v) (some (w.heap.size+1)):=z03 wr ⟨w.heap.size+1,1,none⟩ _;exact ⟨⟨z04 hg (by omega) h.p,z0a (i:=1) _ h.q,h.lo.trans (z05 hg (fun k hk=>by injection hk with hk; omega) h.lo.size)⟩,hg⟩
end
end Go.Proofs.YtdflbhofmmlpgaaGreat
