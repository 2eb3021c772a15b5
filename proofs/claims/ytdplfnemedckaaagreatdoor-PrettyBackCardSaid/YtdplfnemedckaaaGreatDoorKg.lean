/-
  Kg: RpSrcA, RpParse. Walks and laws that the statement's proof is made of. No condition of its own.
-/
import Derived.Test.YtdplfnemedckaaaGreatDoorKf
import Derived.Test.YtdplfnemedckaaaGreatDoorKc
namespace Go.Proofs.YtdplfnemedckaaaGreatDoor
open Go.RowKit
def MStr:z3I ByteArray:=fun _ _ x cs=>cs=[.string x]
theorem z0L:MStr.Keeps:=fun _ _ _ _ _ _ _ _ h=>h
theorem zbl (F:Nat→Prop) (w:World) (nm:ByteArray):MStr F w nm [.string nm]:=rfl
theorem zfy (nm:ByteArray):∀ u∈[Value.string nm],u.oneCell'=true:=by
 intro u hu
 cases List.mem_singleton.1 hu
 rfl
def MGl:z3I (ByteArray × Int):=fun _ _ x cs=>cs=[.string x.1,.int .i64 x.2]
theorem z1c:MGl.Keeps:=fun _ _ _ _ _ _ _ _ h=>h
theorem zd9:(Tryz.prog.info? 9).map (fun i=>(i.zero,i.size,i.bytes))=some (some (.string ⟨#[]⟩),1,16):=by kernel_rfl
theorem zfc:(Tryz.prog.info? 52).map (fun i=>(i.zero,i.size,i.bytes))=some (some (.agg #[.string ⟨#[]⟩,.int .i64 0]),2,24):=by kernel_rfl
set_option maxRecDepth 10000 in
theorem z2Z {α:Type} {k:Nat} {T S:TypeId} {V:z3I α} {ops:Array Oper} {o:Oper} {a:Act} {K:Act→World→Prop} {Q:Exit→Act→World→Prop} {E:Prop} (w:World) (hgd:o.guard=none) (s x:Operand)
  (ho:o.op=.call { callee:=.builtin .append,args:=#[s,x],argTypes:=#[S,S] }) (hV:V.Keeps) (z:Value) (bytes:Nat) (ht:Tryz.prog.underlying S=some (.slice T)) (hinfo:(Tryz.prog.info? T).map (fun i=>(i.zero,i.size,i.bytes))=some (some z,k,bytes)) (hzs:z.cells.size=k) (hk0:0<k) (hb0:bytes≤1000)
  (base:Nat) (v:Value) (xs:List α) (L:List Value) (y:α) (cs:List Value) (F:Nat→Prop)
  (hs:a.eval s=v) (hx:a.eval x=.slice (some ⟨w.heap.size,0,none⟩) 1 1) (h:GRow k T V base w v xs L) (hlen:xs.length≤1000000) (hbase:base≤w.heap.size)
  (hcs:cs.length=k) (h1:∀ u∈cs,u.oneCell'=true) (hy:V F w y cs) (hF:∀ b,F b→base≤b∧b<w.heap.size∧v.ownBlock≠some b)
  (hk:∀ g cap w',GRow k T V base w' (.slice (some ⟨g,0,none⟩) (xs.length+1) cap) (xs++[y]) (L++cs)→w.grownBy w' v.ownBlock→(v.ownBlock=some g∨w.heap.size≤g)→K (a.put o.dst (.slice (some ⟨g,0,none⟩) (xs.length+1) cap)) w') :
  if Region.wanted o (yielded ops a.tmps)=true then Oper.wp Tryz.prog o a (w.alloc (.cells cs.toArray T)) K Q else E:=by
 obtain ⟨i,hi,hz,hsz,hby⟩:=info_parts hinfo
 have hmul:(xs.length+1) * bytes≤1000001 * 1000:=Nat.mul_le_mul (by omega) hb0
 refine step_append_lies _ hgd s x _ ho base T i z k bytes ht hi hz hsz hby hzs hk0 v xs.length L hs (h.own.alloc _) ⟨w.heap.size,0,none⟩ 1 1 cs hx (by omega) ?_ h1 (by decide) (by unfold maxLen; omega) (by omega) (by simp; omega) _ rfl fun g cap w' h1 h2 h3 _=>hk g cap w' (h.push hV hcs hy hF h1 ((Below.refl _ w).alloc (Nat.le_refl _) _) h2 h3) ((World.grownBy_alloc _ _ _).trans h2) (h3.imp id (fun e=>by rw [e]; simp))
 intro j u hu
 rw [Addr.add_lit,Nat.zero_add]
 exact (cell_of_row _ _ _ _ _ _ (heap_alloc_new w _)).trans (by simpa using hu)
def zcx:Obj:=.cells #[.string { data:=#[] },.int .i64 0,.slice none 0 0,.slice none 0 0] 55
structure FnU (p tb fb:Nat) (nm:ByteArray) (ps:List ByteArray) (s:RS) (w wr:World) (A:Option Addr) (m c:Nat) (L:List Value):Prop where
 ra:RA wr p tb s
 gr:w.grownBy wr (some p)
 z:wr.heap[w.heap.size]?=some zcx
 lt:w.heap.size<fb
 row:wr.heap[fb]?=some (.cells #[.string nm,.int .i64 0,.slice A m c,.slice none 0 0] 55 (0,0))
 hm:m=ps.length
 ps:GRow 1 9 MStr (fb+1) wr (.slice A m c) ps L
section
variable {p tb fb:Nat} {nm:ByteArray} {ps:List ByteArray} {s s':RS} {w wr w':World} {A:Option Addr} {m c:Nat} {L:List Value}
theorem FnU.flt (h:FnU p tb fb nm ps s w wr A m c L):fb<wr.heap.size:=(Array.getElem?_eq_some_iff.1 h.row).1
theorem FnU.step (h:FnU p tb fb nm ps s w wr A m c L) (hp:p<w.heap.size) (hg:wr.grownBy w' (some p)) (ha:RA w' p tb s'):FnU p tb fb nm ps s' w w' A m c L:=by
 have hlt:=h.lt
 exact ⟨ha,h.gr.trans hg,z04 hg (by omega) h.z,h.lt,z04 hg (by omega) h.row,h.hm,h.ps.grown z0L hg (by omega)⟩
theorem FnU.push {y:ByteArray} {g cap:Nat} {w2:World} {cs:List Value} (h:FnU p tb fb nm ps s w wr A m c L) (hp:p<w.heap.size) (ht:tb<w.heap.size) (h2:GRow 1 9 MStr (fb+1) w2 (.slice (some ⟨g,0,none⟩) (ps.length+1) cap) (ps++[y]) (L++cs)) (hb:Below (fb+1) wr w2) :
  FnU p tb fb nm (ps++[y]) s w (w2.setCell ⟨fb,2,none⟩ (.slice (some ⟨g,0,none⟩) (ps.length+1) cap)) (some ⟨g,0,none⟩) (ps.length+1) cap (L++cs):=by
 have hlt:=h.lt
 have hg:w2.grownBy (w2.setCell ⟨fb,2,none⟩ (.slice (some ⟨g,0,none⟩) (ps.length+1) cap)) (some fb):=z06 w2 ⟨fb,2,none⟩ _
 have hr2:=(hb.block fb (by omega)).trans h.row
 exact ⟨(h.ra.low hb (by omega) (by omega)).other hg (by omega) (by omega),z0g (z17 h.gr hb (by omega)) hg (by omega),z04 hg (by omega) ((hb.block _ (by omega)).trans h.z),h.lt,z0f (i:=2) (.slice (some ⟨g,0,none⟩) (ps.length+1) cap) hr2,by simp,h2.grown z0L hg (by omega)⟩
end
end Go.Proofs.YtdplfnemedckaaaGreatDoor
namespace Go.Proofs.YtdplfnemedckaaaGreatDoor
open Go.RowKit
theorem z4O {w w':World} {base n size:Nat} {T:TypeId} {v:Value} {xs:List Value} (h:w.ownsRow base T size v n xs) (hg:w.grownBy w' v.ownBlock) (hb:base≤w.heap.size):Below base w w':=z0b hg (fun k hk=>(h.lt k hk).1) hb
theorem zdG {P:Program} {w:World} {ops:Array Oper} {rest:List Oper} {d:Option Tmp} {ty:TypeId} {x y:Operand} {pos:String} {af:Array Edge} {gd:Option (Nat × Bool)} {a:Act} {Q:Exit→Act→World→Prop}
  (h:z0a (wpList P ops Q ({ dst:=d,op:=.store 55 x y,type:=ty,pos:=pos,after:=af,guard:=gd } :: rest) a w)):wpList P ops Q ({ dst:=d,op:=.store 55 x y,type:=ty,pos:=pos,after:=af,guard:=gd } :: rest) a w:=h
end Go.Proofs.YtdplfnemedckaaaGreatDoor
namespace Go.Proofs.YtdplfnemedckaaaGreatDoor
open Go.RowKit
def z7n:Obj:=.cells #[.string { data:=#[] },.int .i64 0] 52
structure GlU (p tb gb:Nat) (nm:ByteArray) (sz:Int) (s:RS) (w wr:World):Prop where
 ra:RA wr p tb s
 gr:w.grownBy wr (some p)
 z:wr.heap[w.heap.size]?=some z7n
 lt:w.heap.size<gb
 row:wr.heap[gb]?=some (.cells #[.string nm,.int .i64 sz] 52 (0,0))
theorem GlU.step {p tb gb:Nat} {nm:ByteArray} {sz:Int} {s s':RS} {w wr w':World} (h:GlU p tb gb nm sz s w wr) (hp:p<w.heap.size) (hg:wr.grownBy w' (some p)) (ha:RA w' p tb s'):GlU p tb gb nm sz s' w w':=by
 have hlt:=h.lt
 exact ⟨ha,h.gr.trans hg,z04 hg (by omega) h.z,h.lt,z04 hg (by omega) h.row⟩
theorem GlU.size {p tb gb:Nat} {nm:ByteArray} {sz:Int} {s:RS} {w wr:World} (h:GlU p tb gb nm sz s w wr) (hp:p<w.heap.size) (ht:tb<w.heap.size) (sz':Int):GlU p tb gb nm sz' s w (wr.setCell ⟨gb,1,none⟩ (.int .i64 sz')):=by
 have hlt:=h.lt
 have hg:wr.grownBy (wr.setCell ⟨gb,1,none⟩ (.int .i64 sz')) (some gb):=z06 wr ⟨gb,1,none⟩ _
 exact ⟨h.ra.other hg (by omega) (by omega),z0g h.gr hg (by omega),z04 hg (by omega) h.z,h.lt,z0f (i:=1) (.int .i64 sz') h.row⟩
theorem GlU.glt {p tb gb:Nat} {nm:ByteArray} {sz:Int} {s:RS} {w wr:World} (h:GlU p tb gb nm sz s w wr):gb<wr.heap.size:=(Array.getElem?_eq_some_iff.1 h.row).1
theorem z8N {P:Program} {w:World} {ops:Array Oper} {rest:List Oper} {d:Option Tmp} {ty:TypeId} {x y:Operand} {pos:String} {af:Array Edge} {gd:Option (Nat × Bool)} {a:Act} {Q:Exit→Act→World→Prop}
  (h:z0a (wpList P ops Q ({ dst:=d,op:=.store 52 x y,type:=ty,pos:=pos,after:=af,guard:=gd } :: rest) a w)):wpList P ops Q ({ dst:=d,op:=.store 52 x y,type:=ty,pos:=pos,after:=af,guard:=gd } :: rest) a w:=h
end Go.Proofs.YtdplfnemedckaaaGreatDoor
namespace Go.Proofs.YtdplfnemedckaaaGreatDoor
open Go.RowKit
theorem RowG.keep {α:Type} {k:Nat} {V:z3I α} {F G:Nat→Prop} {w w':World} {xs:List α} {A:Option Addr} {c:Nat} (hV:V.Keeps) (hFG:∀ b,F b→G b) (hk:∀ b,F b→w'.heap[b]?=w.heap[b]?) (h:RowG k V F w xs A c):RowG k V G w' xs A c:=by
 refine ⟨h.1,fun i x hi=>?_⟩
 obtain ⟨g,cs,h1,h2,h3,h4,h5⟩:=h.2 i x hi
 exact ⟨g,cs,h1,hFG g h2,h3,fun j u hu=>(World.cell?_of_block (hk g h2)).trans (h4 j u hu),hV _ _ _ _ _ _ hFG hk h5⟩
def MFn (D d:Nat):z3I Fn:=fun F w f cs=>∃ A m c bA bm bc,cs=[.string f.name,.int .i64 f.line,.slice A m c,.slice bA bm bc]∧m=f.params.length∧bm=f.body.length∧RowG 1 MStr F w f.params A c∧RowS F w D d f.body bA bc
theorem z3f (D d:Nat):(MFn D d).Keeps:=by
 intro F G w w' f cs hFG hk h
 obtain ⟨A,m,c,bA,bm,bc,h1,h2,h3,h4,h5⟩:=h
 exact ⟨A,m,c,bA,bm,bc,h1,h2,h3,h4.keep z0L hFG hk,RowS.keep hFG hk h5⟩
theorem MFn.up {D d:Nat} {F:Nat→Prop} {w:World} {f:Fn} {cs:List Value} (h:MFn D d F w f cs) (m n:Nat):MFn (D+m) (d+(n+1)) F w f cs:=by
 obtain ⟨A,q,c,bA,bm,bc,h1,h2,h3,h4,h5⟩:=h
 exact ⟨A,q,c,bA,bm,bc,h1,h2,h3,h4,h5.more m n⟩
def MFnX (D d X:Nat):z3I Fn:=fun F w f cs=>MFn D d (fun b=>F b∧b≠X) w f cs
theorem z1y (D d X:Nat):(MFnX D d X).Keeps:=fun _ _ _ _ _ _ hFG hk h=>z3f D d _ _ _ _ _ _ (fun b hb=>⟨hFG b hb.1,hb.2⟩) (fun b hb=>hk b hb.1) h
theorem zfb:(Tryz.prog.info? 55).map (fun i=>(i.zero,i.size,i.bytes))=some (some (.agg #[.string ⟨#[]⟩,.int .i64 0,.slice none 0 0,.slice none 0 0]),4,72):=by kernel_rfl
def z1O:Obj:=.cells #[.slice none 0 0,.slice none 0 0] 29
def obk (v:Value):Nat:=v.ownBlock.getD 0
structure SrcU (p tb pb:Nat) (gl:Gls) (fl:List Fn) (s:RS) (w wr:World) (gA:Option Addr) (gm gc:Nat) (Lg:List Value) (fA:Option Addr) (fm fc:Nat) (Lf:List Value) (D d:Nat):Prop where
 ra:RA wr p tb s
 gr:w.grownBy wr (some p)
 z:wr.heap[w.heap.size]?=some z1O
 lt:w.heap.size<pb
 row:wr.heap[pb]?=some (.cells #[.slice gA gm gc,.slice fA fm fc] 29 (0,0))
 hgm:gm=gl.length
 hfm:fm=fl.length
 gs:GRow 2 52 MGl (pb+1) wr (.slice gA gm gc) gl Lg
 fs:GRow 4 55 (MFnX D d (obk (.slice gA gm gc))) (pb+1) wr (.slice fA fm fc) fl Lf
 sep:∀ b,(Value.slice fA fm fc).ownBlock=some b→b≠obk (.slice gA gm gc)
section
variable {p tb pb:Nat} {gl:Gls} {fl:List Fn} {s s':RS} {w wr w':World} {gA fA:Option Addr} {gm gc fm fc D d:Nat} {Lg Lf:List Value}
theorem SrcU.plt (h:SrcU p tb pb gl fl s w wr gA gm gc Lg fA fm fc Lf D d):pb<wr.heap.size:=(Array.getElem?_eq_some_iff.1 h.row).1
theorem SrcU.step (h:SrcU p tb pb gl fl s w wr gA gm gc Lg fA fm fc Lf D d) (hp:p<w.heap.size) (hg:wr.grownBy w' (some p)) (ha:RA w' p tb s'):SrcU p tb pb gl fl s' w w' gA gm gc Lg fA fm fc Lf D d:=by
 have hlt:=h.lt
 exact ⟨ha,h.gr.trans hg,z04 hg (by omega) h.z,h.lt,z04 hg (by omega) h.row,h.hgm,h.hfm,h.gs.grown z1c hg (by omega),h.fs.grown (z1y _ _ _) hg (by omega),h.sep⟩
theorem GRow.other {α:Type} {k:Nat} {T:TypeId} {V:z3I α} {base:Nat} {v:Value} {xs:List α} {L:List Value} {o:Option Nat} (hV:∀ F G w w' x cs,V F w x cs→V G w' x cs) (h:GRow k T V base w v xs L) (hg:w.grownBy w' o) (hne:∀ b,v.ownBlock=some b→o≠some b):GRow k T V base w' v xs L:=by
 refine ⟨?_,fun j x hj=>?_⟩
 ·rcases h.own.2 with hn | ⟨g',cap,cur,e,hb',hh,rest⟩
  ·exact ⟨h.own.1,.inl hn⟩
  ·exact ⟨h.own.1,.inr ⟨g',cap,cur,e,hb',(hg.block g' (Array.getElem?_eq_some_iff.1 hh).1 (fun e2=>hne g' (by rw [e]; rfl) e2.symm)).trans hh,rest⟩⟩
 ·obtain ⟨cs,h1,h2,h3⟩:=h.at_ j x hj
  exact ⟨cs,h1,h2,hV _ _ _ _ _ _ h3⟩
theorem zaM {X g8 base:Nat} {gv fv:Value} (h:GRow 4 55 (MFnX D d X) base w fv fl Lf) (hX:∀ b,gv.ownBlock=some b→b=X) (hsep:∀ b,fv.ownBlock=some b→b≠X) (hg:w.grownBy w' gv.ownBlock) (hg8:gv.ownBlock=some g8∨w.heap.size≤g8):GRow 4 55 (MFnX D d g8) base w' fv fl Lf∧∀ b,fv.ownBlock=some b→b≠g8:=by
 have hne:∀ b,b<w.heap.size→b≠X→b≠g8:=fun b hb hx e=>by
  rcases hg8 with h8 | h8
  ·exact hx (e.trans (hX g8 h8))
  ·omega
 refine ⟨⟨?_,fun j x hj=>?_⟩,fun b hb=>hne b (h.own.lt b hb).2 (hsep b hb)⟩
 ·rcases h.own.2 with hn | ⟨g',cap,cur,e,hb',hh,rest⟩
  ·exact ⟨h.own.1,.inl hn⟩
  ·exact ⟨h.own.1,.inr ⟨g',cap,cur,e,hb',(hg.block g' (Array.getElem?_eq_some_iff.1 hh).1 (fun e2=>hsep g' (by rw [e]; rfl) (hX g' e2.symm))).trans hh,rest⟩⟩
 ·obtain ⟨cs,h1,h2,h3⟩:=h.at_ j x hj
  exact ⟨cs,h1,h2,z3f D d _ _ _ _ _ _ (fun b hb=>⟨⟨hb.1.1,Nat.lt_of_lt_of_le hb.1.2.1 hg.size,hb.1.2.2⟩,hne b hb.1.2.1 hb.2⟩) (fun b hb=>hg.block b hb.1.2.1 (fun e=>hb.2 (hX b e.symm))) h3⟩
theorem z8I {v:Value}:∀ b,v.ownBlock=some b→b=obk v:=fun b hb=>by rw [obk,hb]; rfl
theorem zgR {v:Value} {n:Nat} (h:∀ b,v.ownBlock=some b→b<n) (hn:0<n):obk v<n:=by
 cases e:v.ownBlock with
 | none=>rw [obk,e]; exact hn
 | some b=>rw [obk,e]; exact h b e
theorem SrcU.pushG {y:ByteArray × Int} {g8 cap:Nat} {w2:World} {cs:List Value} (h:SrcU p tb pb gl fl s w wr gA gm gc Lg fA fm fc Lf D d) (hp:p<w.heap.size) (ht:tb<w.heap.size) (h2:GRow 2 52 MGl (pb+1) w2 (.slice (some ⟨g8,0,none⟩) (gl.length+1) cap) (gl++[y]) (Lg++cs)) (hg:wr.grownBy w2 (Value.slice gA gm gc).ownBlock) (hg8:(Value.slice gA gm gc).ownBlock=some g8∨wr.heap.size≤g8) :
  SrcU p tb pb (gl++[y]) fl s w (w2.setCell ⟨pb,0,none⟩ (.slice (some ⟨g8,0,none⟩) (gl.length+1) cap)) (some ⟨g8,0,none⟩) (gl.length+1) cap (Lg++cs) fA fm fc Lf D d:=by
 have hlt:=h.lt
 have hpl:=h.plt
 have hb:Below (pb+1) wr w2:=z0b hg (fun k hk=>(h.gs.own.lt k hk).1) (by omega)
 have hs:w2.grownBy (w2.setCell ⟨pb,0,none⟩ (.slice (some ⟨g8,0,none⟩) (gl.length+1) cap)) (some pb):=z06 w2 ⟨pb,0,none⟩ _
 obtain ⟨hf,hsep⟩:=zaM h.fs z8I h.sep hg hg8
 have hr2:=(hb.block pb (by omega)).trans h.row
 exact ⟨(h.ra.low hb (by omega) (by omega)).other hs (by omega) (by omega),z0g (z17 h.gr hb (by omega)) hs (by omega),z04 hs (by omega) ((hb.block _ (by omega)).trans h.z),h.lt,z0f (i:=0) (.slice (some ⟨g8,0,none⟩) (gl.length+1) cap) hr2,by simp,h.hfm,h2.grown z1c hs (by omega),hf.grown (z1y _ _ _) hs (by omega),hsep⟩
theorem SrcU.pushF {y:Fn} {g8 cap D' d':Nat} {w1 w2:World} {cs:List Value} (h:SrcU p tb pb gl fl s w wr gA gm gc Lg fA fm fc Lf D d) (hp:p<w.heap.size) (ht:tb<w.heap.size) (hb1:Below wr.heap.size wr w1) (h2:GRow 4 55 (MFnX D' d' (obk (.slice gA gm gc))) (pb+1) w2 (.slice (some ⟨g8,0,none⟩) (fl.length+1) cap) (fl++[y]) (Lf++cs)) (hg:w1.grownBy w2 (Value.slice fA fm fc).ownBlock) (hg8:(Value.slice fA fm fc).ownBlock=some g8∨w1.heap.size≤g8) :
  SrcU p tb pb gl (fl++[y]) s w (w2.setCell ⟨pb,1,none⟩ (.slice (some ⟨g8,0,none⟩) (fl.length+1) cap)) gA gm gc Lg (some ⟨g8,0,none⟩) (fl.length+1) cap (Lf++cs) D' d':=by
 have hlt:=h.lt
 have hpl:=h.plt
 have hs1:=hb1.size
 have hb:Below (pb+1) wr w2:=(hb1.mono (by omega)).trans (z0b hg (fun k hk=>(h.fs.own.lt k hk).1) (by omega))
 have hs:w2.grownBy (w2.setCell ⟨pb,1,none⟩ (.slice (some ⟨g8,0,none⟩) (fl.length+1) cap)) (some pb):=z06 w2 ⟨pb,1,none⟩ _
 have hr2:=(hb.block pb (by omega)).trans h.row
 have hgs:=((h.gs.other (o:=none) (fun _ _ _ _ _ _ h=>h) ⟨hb1.os,hb1.tape,hb1.output,hb1.size,fun k hk _=>hb1.block k hk⟩ (fun _ _ e=>by cases e)).other (fun _ _ _ _ _ _ h=>h) hg (fun b hb e=>h.sep b e (z8I b hb)))
 refine ⟨(h.ra.low hb (by omega) (by omega)).other hs (by omega) (by omega),z0g (z17 h.gr hb (by omega)) hs (by omega),z04 hs (by omega) ((hb.block _ (by omega)).trans h.z),h.lt,z0f (i:=1) (.slice (some ⟨g8,0,none⟩) (fl.length+1) cap) hr2,h.hgm,by simp,hgs.grown z1c hs (by omega),h2.grown (z1y _ _ _) hs (by omega),?_⟩
 intro b hb
 have e:g8=b:=by simpa [Value.ownBlock] using hb
 subst e
 rcases hg8 with h8 | h8
 ·exact h.sep _ h8
 ·intro e
  by_cases hn:(Value.slice gA gm gc).ownBlock=none
  ·rw [obk,hn] at e
   simp at e
   omega
  ·obtain ⟨b,hb⟩:=Option.ne_none_iff_exists'.1 hn
   have:=(h.gs.own.lt b hb).2
   rw [obk,hb] at e
   simp at e
   omega
end
theorem zcY {f:Fn} {ln:Int} {n0 X D d Df df m c bm bc:Nat} {A bA:Option Addr} {w:World} (hm:m=f.params.length) (hbm:bm=f.body.length) (hps:RowG 1 MStr (fun q=>n0≤q∧q<w.heap.size) w f.params A c) (hbd:RowS (fun q=>n0≤q∧q<w.heap.size) w Df df f.body bA bc) (hX:X<n0) :
  MFnX (D+Df) (d+df+1) X (fun q=>n0≤q∧q<w.heap.size) w { f with line:=ln } [.string f.name,.int .i64 ln,.slice A m c,.slice bA bm bc]:=by
 refine ⟨A,m,c,bA,bm,bc,rfl,hm,hbm,hps.keep z0L (fun b hb=>⟨hb,by have:=hb.1; omega⟩) (fun _ _=>rfl),RowS.keep (fun b hb=>⟨hb,by have:=hb.1; omega⟩) (fun _ _=>rfl) ?_⟩
 have:=hbd.more D d
 have e:df+(d+1)=d+df+1:=by omega
 rw [Nat.add_comm Df D,e] at this
 exact this
def z44 (w:World) (b:Nat):Nat:=match w.cell? ⟨b,0,none⟩,w.cell? ⟨b,1,none⟩ with | some (.slice _ n _),some (.slice _ m _)=>n+m | _,_=>0
theorem SrcU.len {p tb pb:Nat} {gl:Gls} {fl:List Fn} {s:RS} {w wr:World} {gA fA:Option Addr} {gm gc fm fc D d:Nat} {Lg Lf:List Value} (h:SrcU p tb pb gl fl s w wr gA gm gc Lg fA fm fc Lf D d):z44 wr pb=gl.length+fl.length:=by
 have e0:wr.cell? ⟨pb,0,none⟩=some (.slice gA gm gc):=by rw [cell_of_row _ _ 0 _ _ _ h.row]; rfl
 have e1:wr.cell? ⟨pb,1,none⟩=some (.slice fA fm fc):=by rw [cell_of_row _ _ 1 _ _ _ h.row]; rfl
 rw [z44,e0,e1,← h.hgm,← h.hfm]
end Go.Proofs.YtdplfnemedckaaaGreatDoor
namespace Go.Proofs.YtdplfnemedckaaaGreatDoor
open Go.RowKit
theorem z6m {P:Program} {w:World} {ops:Array Oper} {rest:List Oper} {d:Option Tmp} {ty:TypeId} {x y:Operand} {pos:String} {af:Array Edge} {gd:Option (Nat × Bool)} {a:Act} {Q:Exit→Act→World→Prop}
  (h:z0a (wpList P ops Q ({ dst:=d,op:=.store 29 x y,type:=ty,pos:=pos,after:=af,guard:=gd } :: rest) a w)):wpList P ops Q ({ dst:=d,op:=.store 29 x y,type:=ty,pos:=pos,after:=af,guard:=gd } :: rest) a w:=h
theorem zdk (F:Nat→Prop) (w:World) (x:ByteArray × Int):MGl F w x [.string x.1,.int .i64 x.2]:=rfl
theorem zh6 (x:ByteArray × Int):∀ u∈[Value.string x.1,.int .i64 x.2],u.oneCell'=true:=by
 intro u hu
 simp at hu
 rcases hu with rfl | rfl <;> rfl
end Go.Proofs.YtdplfnemedckaaaGreatDoor
namespace Go.Proofs.YtdplfnemedckaaaGreatDoor
open Go.RowKit
def z3J (x:Except (Nat × Nat) (Gls × List Fn)) (w:World) (e:Ending) (w':World):Prop :=
 match x with
 | .error (n,c)=>e=.returned (.tuple #[.agg #[.slice none 0 0,.slice none 0 0],.int .i64 (n:Int),.int .i64 (c:Int)])∧Below w.heap.size w w'
 | .ok (gl,fl)=>∃ D d gA gc fA fc,e=.returned (.tuple #[.agg #[.slice gA gl.length gc,.slice fA fl.length fc],.int .i64 0,.int .i64 0]) ∧
  RowG 2 MGl (fun q=>w.heap.size≤q∧q<w'.heap.size) w' gl gA gc∧RowG 4 (MFn D d) (fun q=>w.heap.size≤q∧q<w'.heap.size) w' fl fA fc∧Below w.heap.size w w'
end Go.Proofs.YtdplfnemedckaaaGreatDoor
