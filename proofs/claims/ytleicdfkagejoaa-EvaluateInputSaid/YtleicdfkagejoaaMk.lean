/-
  Mk: RpSrcA, RpParse. Walks and laws that the statement's proof is made of. No condition of its own.
-/
import Derived.Test.YtleicdfkagejoaaMj
import Derived.Test.YtleicdfkagejoaaKc
namespace Go.Proofs.Ytleicdfkagejoaa
open Go.RowKit
theorem z5Z:∀ d,SubS 75 (z5Y d)
 | 0=>fun _ _ _ _ _ _ _ hP=>by cases hP
 | d+1=>zdS (z3z (z5Y d)) zcp zcq (z8o _ (z5Z d))
theorem z7v (d:Nat):SubB 58 (z3z (z5Y d)):=z8o _ (z5Z d)
def MStr:z1A ByteArray:=fun _ _ x cs=>cs=[.string x]
theorem z10:MStr.Keeps:=fun _ _ _ _ _ _ _ _ h=>h
theorem z5F (F:Nat→Prop) (w:World) (nm:ByteArray):MStr F w nm [.string nm]:=rfl
theorem z9v (nm:ByteArray):∀ u∈[Value.string nm],u.oneCell'=true:=by
 intro u hu
 cases List.mem_singleton.1 hu
 rfl
def MGl:z1A (ByteArray × Int):=fun _ _ x cs=>cs=[.string x.1,.int .i64 x.2]
theorem z13:MGl.Keeps:=fun _ _ _ _ _ _ _ _ h=>h
theorem z71:(Try.prog.info? 9).map (fun i=>(i.zero,i.size,i.bytes))=some (some (.string ⟨#[]⟩),1,16):=by kernel_rfl
theorem zcC:(Try.prog.info? 76).map (fun i=>(i.zero,i.size,i.bytes))=some (some (.agg #[.string ⟨#[]⟩,.int .i64 0]),2,24):=by kernel_rfl
set_option maxRecDepth 10000 in
theorem z2k {α:Type} {k:Nat} {T S:TypeId} {V:z1A α} {ops:Array Oper} {o:Oper} {a:Act} {K:Act→World→Prop} {Q:Exit→Act→World→Prop} {E:Prop} (w:World) (hgd:o.guard=none) (s x:Operand)
  (ho:o.op=.call { callee:=.builtin .append,args:=#[s,x],argTypes:=#[S,S] }) (hV:V.Keeps) (z:Value) (bytes:Nat) (ht:Try.prog.underlying S=some (.slice T)) (hinfo:(Try.prog.info? T).map (fun i=>(i.zero,i.size,i.bytes))=some (some z,k,bytes)) (hzs:z.cells.size=k) (hk0:0<k) (hb0:bytes≤1000)
  (base:Nat) (v:Value) (xs:List α) (L:List Value) (y:α) (cs:List Value) (F:Nat→Prop)
  (hs:a.eval s=v) (hx:a.eval x=.slice (some ⟨w.heap.size,0,none⟩) 1 1) (h:GRow k T V base w v xs L) (hlen:xs.length≤1000000) (hbase:base≤w.heap.size)
  (hcs:cs.length=k) (h1:∀ u∈cs,u.oneCell'=true) (hy:V F w y cs) (hF:∀ b,F b→base≤b∧b<w.heap.size∧v.ownBlock≠some b)
  (hk:∀ g cap w',GRow k T V base w' (.slice (some ⟨g,0,none⟩) (xs.length+1) cap) (xs++[y]) (L++cs)→w.grownBy w' v.ownBlock→(v.ownBlock=some g∨w.heap.size≤g)→K (a.put o.dst (.slice (some ⟨g,0,none⟩) (xs.length+1) cap)) w') :
  if Region.wanted o (yielded ops a.tmps)=true then Oper.wp Try.prog o a (w.alloc (.cells cs.toArray T)) K Q else E:=by
 obtain ⟨i,hi,hz,hsz,hby⟩:=info_parts hinfo
 have hmul:(xs.length+1) * bytes≤1000001 * 1000:=Nat.mul_le_mul (by omega) hb0
 refine step_append_lies _ hgd s x _ ho base T i z k bytes ht hi hz hsz hby hzs hk0 v xs.length L hs (h.own.alloc _) ⟨w.heap.size,0,none⟩ 1 1 cs hx (by omega) ?_ h1 (by decide) (by unfold maxLen; omega) (by omega) (by simp; omega) _ rfl fun g cap w' h1 h2 h3 _=>hk g cap w' (h.push hV hcs hy hF h1 ((Below.refl _ w).alloc (Nat.le_refl _) _) h2 h3) ((World.grownBy_alloc _ _ _).trans h2) (h3.imp id (fun e=>by rw [e]; simp))
 intro j u hu
 rw [Addr.add_lit,Nat.zero_add]
 exact (cell_of_row _ _ _ _ _ _ (heap_alloc_new w _)).trans (by simpa using hu)
def z4m:Obj:=.cells #[.string { data:=#[] },.int .i64 0,.slice none 0 0,.slice none 0 0] 73
structure FnU (p tb fb:Nat) (nm:ByteArray) (ps:List ByteArray) (s:RS) (w wr:World) (A:Option Addr) (m c:Nat) (L:List Value):Prop where
 ra:RA wr p tb s
 gr:w.grownBy wr (some p)
 z:wr.heap[w.heap.size]?=some z4m
 lt:w.heap.size<fb
 row:wr.heap[fb]?=some (.cells #[.string nm,.int .i64 0,.slice A m c,.slice none 0 0] 73 (0,0))
 hm:m=ps.length
 ps:GRow 1 9 MStr (fb+1) wr (.slice A m c) ps L
section
variable {p tb fb:Nat} {nm:ByteArray} {ps:List ByteArray} {s s':RS} {w wr w':World} {A:Option Addr} {m c:Nat} {L:List Value}
theorem FnU.flt (h:FnU p tb fb nm ps s w wr A m c L):fb<wr.heap.size:=(Array.getElem?_eq_some_iff.1 h.row).1
theorem FnU.step (h:FnU p tb fb nm ps s w wr A m c L) (hp:p<w.heap.size) (hg:wr.grownBy w' (some p)) (ha:RA w' p tb s'):FnU p tb fb nm ps s' w w' A m c L:=by
 have hlt:=h.lt
 exact ⟨ha,h.gr.trans hg,z04 hg (by omega) h.z,h.lt,z04 hg (by omega) h.row,h.hm,h.ps.grown z10 hg (by omega)⟩
theorem FnU.push {y:ByteArray} {g cap:Nat} {w2:World} {cs:List Value} (h:FnU p tb fb nm ps s w wr A m c L) (hp:p<w.heap.size) (ht:tb<w.heap.size) (h2:GRow 1 9 MStr (fb+1) w2 (.slice (some ⟨g,0,none⟩) (ps.length+1) cap) (ps++[y]) (L++cs)) (hb:Below (fb+1) wr w2) :
  FnU p tb fb nm (ps++[y]) s w (w2.setCell ⟨fb,2,none⟩ (.slice (some ⟨g,0,none⟩) (ps.length+1) cap)) (some ⟨g,0,none⟩) (ps.length+1) cap (L++cs):=by
 have hlt:=h.lt
 have hg:w2.grownBy (w2.setCell ⟨fb,2,none⟩ (.slice (some ⟨g,0,none⟩) (ps.length+1) cap)) (some fb):=z05 w2 ⟨fb,2,none⟩ _
 have hr2:=(hb.block fb (by omega)).trans h.row
 exact ⟨(h.ra.low hb (by omega) (by omega)).other hg (by omega) (by omega),z0n (z1y h.gr hb (by omega)) hg (by omega),z04 hg (by omega) ((hb.block _ (by omega)).trans h.z),h.lt,z0d (i:=2) (.slice (some ⟨g,0,none⟩) (ps.length+1) cap) hr2,by simp,h2.grown z10 hg (by omega)⟩
end
def FnRG (p tb:Nat) (f:Fn) (s s':RS) (w:World) (e:Ending) (w':World):Prop:=∃ D d A m c bA bm bc,e=.returned (.agg #[.string f.name,.int .i64 0,.slice A m c,.slice bA bm bc])∧m=f.params.length∧bm=f.body.length ∧
 RowG 1 MStr (fun q=>w.heap.size≤q∧q<w'.heap.size) w' f.params A c∧RowS (fun q=>w.heap.size≤q∧q<w'.heap.size) w' D d f.body bA bc∧RA w' p tb s'∧w.grownBy w' (some p)∧s'.rest.length≤s.rest.length
def z5K (w:World) (b:Nat):Nat:=match w.cell? ⟨b,2,none⟩ with | some (.slice _ n _)=>n | _=>0
theorem FnU.par {p tb fb:Nat} {nm:ByteArray} {ps:List ByteArray} {s:RS} {w wr:World} {A:Option Addr} {m c:Nat} {L:List Value} (h:FnU p tb fb nm ps s w wr A m c L):z5K wr fb=ps.length:=by
 have:=cell_of_row _ _ 2 _ _ _ h.row
 have e:wr.cell? ⟨fb,2,none⟩=some (.slice A m c):=by rw [this]; rfl
 rw [z5K,e,← h.hm]
def ParR (p tb fb n0:Nat) (nm:ByteArray) (ps:List ByteArray) (s s':RS) (w wr:World):Prop:=∃ n xs ss A m c L,z2f n xs ss=some (ps,s')∧n+xs.length=n0∧FnU p tb fb nm xs ss w wr A m c L∧ss.rest.length≤s.rest.length∧xs.length+ss.rest.length≤1000001
theorem z6v {n:Nat} {xs ps:List ByteArray} {s s':RS} (h:z2f n xs s=some (ps,s')) (hs:isR [44] s=true):∃ m,n=m+1∧z2f m (xs++[nmB (z03 1 (popR s)).1.text]) (z03 1 (popR s)).2=some (ps,s'):=by
 cases n with
 | zero=>cases h
 | succ m=>simp only [z2f,hs,if_true] at h; exact ⟨m,rfl,h⟩
theorem z7O {n:Nat} {xs ps:List ByteArray} {s s':RS} (h:z2f n xs s=some (ps,s')) (hs:isR [44] s=false):ps=xs∧s'=z0c [41] s:=by
 cases n with
 | zero=>cases h
 | succ m =>
  simp only [z2f,hs] at h
  injection h with h
  injection h with e1 e2
  exact ⟨e1.symm,e2.symm⟩
theorem z4p {B:RSL} {s s':RS} {f:Fn} (h:z22 B s=some (f,s')):∃ ps s1 b,z4c (z0c [40] (z03 1 s).2)=some (ps,s1)∧B s1=some (b,s')∧f=⟨nmB (z03 1 s).1.text,0,ps,b⟩:=by
 unfold z22 at h
 cases h1:z4c (z0c [40] (z03 1 s).2) with
 | none=>rw [h1] at h; cases h
 | some q =>
  obtain ⟨ps,s1⟩:=q
  rw [h1] at h
  dsimp only at h
  cases h2:B s1 with
  | none=>rw [h2] at h; cases h
  | some q2 =>
   obtain ⟨b,s2⟩:=q2
   rw [h2] at h
   injection h with h
   injection h with e1 e2
   subst e2
   exact ⟨ps,s1,b,rfl,h2,e1.symm⟩
theorem z5j {s s1:RS} {ps:List ByteArray} (h:z4c s=some (ps,s1)):(isR [41] s=true∧ps=[]∧s1=popR s)∨(isR [41] s=false∧z2f ((z03 1 s).2.rest.length+1) [nmB (z03 1 s).1.text] (z03 1 s).2=some (ps,s1)):=by
 unfold z4c at h
 cases hi:isR [41] s with
 | true =>
  rw [if_pos hi] at h
  injection h with h
  injection h with e1 e2
  exact .inl ⟨rfl,e1.symm,e2.symm⟩
 | false =>
  rw [if_neg (by rw [hi]; decide)] at h
  exact .inr ⟨rfl,h⟩
end Go.Proofs.Ytleicdfkagejoaa
namespace Go.Proofs.Ytleicdfkagejoaa
open Go.RowKit
theorem z3W {w w':World} {base n size:Nat} {T:TypeId} {v:Value} {xs:List Value} (h:w.ownsRow base T size v n xs) (hg:w.grownBy w' v.ownBlock) (hb:base≤w.heap.size):Below base w w':=z07 hg (fun k hk=>(h.lt k hk).1) hb
theorem z7f {P:Program} {w:World} {ops:Array Oper} {rest:List Oper} {d:Option Tmp} {ty:TypeId} {x y:Operand} {pos:String} {af:Array Edge} {gd:Option (Nat × Bool)} {a:Act} {Q:Exit→Act→World→Prop}
  (h:z08 (wpList P ops Q ({ dst:=d,op:=.store 73 x y,type:=ty,pos:=pos,after:=af,guard:=gd } :: rest) a w)):wpList P ops Q ({ dst:=d,op:=.store 73 x y,type:=ty,pos:=pos,after:=af,guard:=gd } :: rest) a w:=h
theorem z8E {p tb fb:Nat} {nm:ByteArray} {ps:List ByteArray} {s:RS} {w wr:World} {A:Option Addr} {m c:Nat} {L:List Value} (h:FnU p tb fb nm ps s w wr A m c L) {v:Value}:(wr.setCell ⟨fb,3,none⟩ v).heap[w.heap.size]?=some (.cells #[.string { data:=#[] },.int .i64 0,.slice none 0 0,.slice none 0 0] 73):=by
 have hlt:=h.lt
 exact z04 (z05 wr ⟨fb,3,none⟩ v) (by show w.heap.size≠fb; omega) h.z
theorem z8D {p tb fb Db db mb cb n0:Nat} {nm:ByteArray} {ps:List ByteArray} {bd:List St} {s s':RS} {w wb w9:World} {A Ab:Option Addr} {m c:Nat} {L:List Value} (h:FnU p tb fb nm ps s' w wb A m c L) (hmb:mb=bd.length) (hrb:RowS (fun q=>n0≤q∧q<wb.heap.size) wb Db db bd Ab cb) (hn0:fb<n0) (hl:s'.rest.length≤s.rest.length) (hp:p<w.heap.size) (ht:tb<w.heap.size)
  (hg9:(wb.setCell ⟨fb,3,none⟩ (.slice Ab mb cb)).grownBy w9 (some w.heap.size)):FnRG p tb ⟨nm,0,ps,bd⟩ s s' w (.returned (.agg #[.string nm,.int .i64 0,.slice A m c,.slice Ab mb cb])) w9:=by
 have hlt:=h.lt
 have hg:wb.grownBy (wb.setCell ⟨fb,3,none⟩ (.slice Ab mb cb)) (some fb):=z05 wb ⟨fb,3,none⟩ _
 have hs:=hg.size
 have hs9:=hg9.size
 have hps:=((h.ps.grown z10 hg (by omega)).grown z10 hg9 (by omega)).row z10
 have hk:∀ q,n0≤q→q<wb.heap.size→w9.heap[q]?=wb.heap[q]?:=fun q h1 h2=>(hg9.block q (Nat.lt_of_lt_of_le h2 hs) (fun e=>by injection e with e; omega)).trans (hg.block q h2 (fun e=>by injection e with e; omega))
 have hra:=(h.ra.other hg (by omega) (by omega)).other hg9 (by omega) (by omega)
 exact ⟨Db,db,A,m,c,Ab,mb,cb,rfl,h.hm,hmb,⟨hps.2.1,fun i x hi=>by
  obtain ⟨g,cs,h1,h2,h3,h4,h5⟩:=hps.2.2 i x hi
  exact ⟨g,cs,h1,⟨by omega,h2.2⟩,h3,h4,h5⟩⟩,RowS.keep (fun q hq=>⟨by omega,by omega⟩) (fun q hq=>hk q hq.1 hq.2) hrb,hra,z0n (z0n h.gr hg (by omega)) hg9 (Nat.le_refl _),hl⟩
set_option maxRecDepth 100000 in
set_option maxHeartbeats 8000000 in
theorem z7F (B:RSL) (hbk:SubB 58 B) (p tb:Nat) (s s':RS) (f:Fn) (w:World) (h:RA w p tb s) (hP:z22 B s=some (f,s')):Calls Try.prog 39 #[.pointer (some ⟨p,0,none⟩)] w (FnRG p tb f s s' w):=by
 obtain ⟨ps,s1,bd,hpar,hb,rfl⟩:=z4p hP
 have HPC:=zhi (z5j hpar)
 have HQB:=zhi hb
 have plt:=h.lt.1
 have tlt:=h.lt.2.1
 have hsm:=h.sm
 have HK:=zhi (show Calls Try.prog 57 #[.pointer (some ⟨p,0,none⟩),.int .i64 1] (w.alloc z4m) (fun e w'=>e=.returned (.agg #[.int .i64 ((z03 1 s).1.kind:Int),.int .i64 ((z03 1 s).1.line:Int),.int .i64 ((z03 1 s).1.value:Int),.string (nmB (z03 1 s).1.text)])∧RA w' p tb (z03 1 s).2∧World.grownBy (w.alloc z4m) w' (some p)) from z3B 1 (w.alloc z4m) (h.alloc _) (by omega))
 have hfd:∀ w:World,(Instr.field 98 (.agg #[.int .i64 ((z03 1 s).1.kind:Int),.int .i64 ((z03 1 s).1.line:Int),.int .i64 ((z03 1 s).1.value:Int),.string (nmB (z03 1 s).1.text)]) 3).run Try.prog w=.ok (.string (nmB (z03 1 s).1.text)) w:=fun _=>by kernel_rfl
 have hb0:=(Below.refl _ w).alloc (Nat.le_refl _) z4m
 have HB0:=zhi hb0
 have HSM:=zhi hsm
 have HBK:=zhi hbk
 unfold z4m at HK
 clear hP hpar hb h hb0 hsm hbk
 go_enter Try.func39,Try.ntmps39
 go_wp2_with fail
 refine HK.out.mono ?_
 rintro e w1 ⟨rfl,hp1,hg1⟩
 have hsz1:w.heap.size+1≤w1.heap.size:=by have:=hg1.size; simpa using this
 have hba:=(Below.refl _ w1).alloc (Nat.le_refl _) (.cells #[.string (nmB (z03 1 s).1.text),.int .i64 0,.slice none 0 0,.slice none 0 0] 73)
 have H0:Hid (FnU p tb w1.heap.size (nmB (z03 1 s).1.text) [] (z03 1 s).2 w (w1.alloc (.cells #[.string (nmB (z03 1 s).1.text),.int .i64 0,.slice none 0 0,.slice none 0 0] 73)) none 0 0 []):=zhi ⟨hp1.alloc _,((z02 HB0.out (some p)).trans hg1).trans (z02 hba _),(hba.block _ (by omega)).trans ((hg1.block _ (by simp) (fun e=>by injection e with e; omega)).trans (heap_alloc_new w z4m)),by omega,heap_alloc_new _ _,rfl,GRow.nil⟩
 clear HK hp1 hg1 hba HB0
 go_upto_region 2 with fail
 obtain ⟨fb,hfb⟩:∃ fb,fb=w1.heap.size:=⟨_,rfl⟩
 rw [← hfb] at H0 ⊢
 obtain ⟨w2,hw2⟩:∃ w2,w2=w1.alloc (.cells #[.string (nmB (z03 1 s).1.text),.int .i64 0,.slice none 0 0,.slice none 0 0] 73):=⟨_,rfl⟩
 rw [← hw2] at H0 ⊢
 clear hw2 hfb hfd
 have HX:=zhi (z0r [40] w2 H0.out.ra)
 go_wp2_with fail
 refine HX.out.mono ?_
 rintro e w3 ⟨⟨v3,rfl⟩,hp3,hg3⟩
 have H3:=zhi (H0.out.step plt hg3 hp3)
 clear HX hp3 hg3 H0
 have HA:=zhi (z0F [41] w3 H3.out.ra)
 go_wp2_with fail
 refine HA.out.mono ?_
 rintro e w4 ⟨rfl,hp4,hg4⟩
 have hl1:=z0v 1 s
 have hl2:=z0h [40] (z03 1 s).2
 rcases HPC.out with ⟨hv,rfl,rfl⟩ | ⟨hv,hpar⟩
 ·rw [z0D hv] at hp4
  have H:=zhi (H3.out.step plt hg4 hp4)
  have hb:=HQB.out
  have hbk:=HBK.out
  clear hp4 hg4 HA H3 HPC HQB HBK
  have hLL:=zhi (show (popR (z0c [40] (z03 1 s).2)).rest.length≤s.rest.length by rw [z0j]; omega)
  clear hl1 hl2
  have HBc:=zhi (hbk p tb (popR (z0c [40] (z03 1 s).2)) s' bd w4 H.out.ra hb)
  clear hb
  go_wp2_with fail
  refine HBc.out.mono ?_
  rintro e wb ⟨Db,db,Ab,mb,cb,rfl,hmb,hrb,hpb,hgb,hlb⟩
  have hsb:=H.out.lt
  have hsl:=H.out.flt
  have hszt:=H.out.gr.size
  have HB:=zhi (H.out.step plt hgb hpb)
  have HRb:=zhi hrb
  have HMb:=zhi hmb
  have HLb:=zhi hlb
  have hrow:=HB.out.row
  obtain ⟨b0,b1,b2,b3⟩:=cl4 hrow
  have f3:=z09 hrow 3
  have hszb:=hgb.size
  clear hmb hrb hpb hgb hlb HBc H hrow
  go_wp2_with (with_reducible refine z7f ?_)
  refine z08.of (z00 _ rfl _ _ _ rfl w.heap.size _ rfl (by rfl) _ _ (z8E HB.out) (by kernel_rfl) (by rfl) (by simp [Value.oneCell']) ?_)
  intro w9 hrow9 hg9
  obtain ⟨j0,j1,j2,j3⟩:=cl4 hrow9
  have HH:=zhi (z8D (s:=s) HB.out HMb.out HRb.out (by omega) (by have:=HLb.out; have:=hLL.out; omega) plt tlt hg9)
  clear hrow9 hg9 b0 b1 b2 b3 f3
  go_wp2_with fail
  exact bodyPost_ret (by simp [results,Try.results39,go_sem,j0,j1,j2,j3]) rfl HH.out
 ·rw [z0T hv] at hp4
  have H:=zhi (H3.out.step plt hg4 hp4)
  have HPR:=zhi hpar
  have HL12:=zhi (show (z03 1 (z0c [40] (z03 1 s).2)).2.rest.length≤s.rest.length by have:=z0v 1 (z0c [40] (z03 1 s).2); omega)
  clear hp4 hg4 HA H3 HPC hpar hl1 hl2
  have hsb:=H.out.lt
  have hsl:=H.out.flt
  have hszw:=H.out.gr.size
  have hr0:=H.out.row
  have b2:=cell_of_row _ _ 2 _ _ _ hr0
  clear hr0
  have HK:=zhi (show Calls Try.prog 57 #[.pointer (some ⟨p,0,none⟩),.int .i64 1] w4.drew (fun e w'=>e=.returned (.agg #[.int .i64 ((z03 1 (z0c [40] (z03 1 s).2)).1.kind:Int),.int .i64 ((z03 1 (z0c [40] (z03 1 s).2)).1.line:Int),.int .i64 ((z03 1 (z0c [40] (z03 1 s).2)).1.value:Int),.string (nmB (z03 1 (z0c [40] (z03 1 s).2)).1.text)])∧RA w' p tb (z03 1 (z0c [40] (z03 1 s).2)).2∧World.grownBy w4.drew w' (some p)) from z3B 1 w4.drew H.out.ra.drew (by omega))
  have hfd:∀ w:World,(Instr.field 98 (.agg #[.int .i64 ((z03 1 (z0c [40] (z03 1 s).2)).1.kind:Int),.int .i64 ((z03 1 (z0c [40] (z03 1 s).2)).1.line:Int),.int .i64 ((z03 1 (z0c [40] (z03 1 s).2)).1.value:Int),.string (nmB (z03 1 (z0c [40] (z03 1 s).2)).1.text)]) 3).run Try.prog w=.ok (.string (nmB (z03 1 (z0c [40] (z03 1 s).2)).1.text)) w:=fun _=>by kernel_rfl
  go_upto_region 4 with fail
  go_region_law
   (first
    | ((with_reducible refine z2k (k:=1) (T:=9) (S:=70) (V:=MStr) w14 rfl (.tmp 14) (.tmp 18) rfl z10 (.string ⟨#[]⟩) 16 Try.underlying70 z71 rfl (by decide) (by decide) (fb+1) (.slice none 0 0) ([]:List ByteArray) ([]:List Value) (nmB (z03 1 (z0c [40] (z03 1 s).2)).1.text) [.string (nmB (z03 1 (z0c [40] (z03 1 s).2)).1.text)] (fun _=>False) rfl rfl HPS6.out (Nat.zero_le _) (by omega) rfl (z9v _) (z5F _ _ _) (fun b hb=>hb.elim) ?_); intro g8 cap8 w15 hps8 hg8 _; have hb8:=(z3W HPS6.out.own hg8 (by omega)); have hrow8:=((hb8.block fb (by omega)).trans HRow6.out); have q2:=(cell_of_row _ _ 2 _ _ _ hrow8); have g2:=(z09 hrow8 2); have HPS8:=zhi hps8; have HB8:=zhi hb8; clear hps8 hg8 hb8 hrow8)
    | (go_simp; go_at_call 57; (with_reducible refine HK.out.mono ?_); rintro e w14 ⟨rfl,hp6,hg6⟩; dsimp only; have hg6':=(z0K hg6); have hsw14:=hg6'.size; have hsl14:fb<w14.heap.size:=Nat.lt_of_lt_of_le hsl hg6'.size; have H14:=zhi (H.out.step plt hg6' hp6); have hrow6:=H14.out.row; have d2:=(cell_of_row _ _ 2 _ _ _ hrow6); have HRow6:=zhi hrow6; have HPS6:=zhi H14.out.ps; clear hg6 hg6' hp6 hrow6))
  all_goals
   have hSM:=HSM.out
   have hLL:=HL12.out
   have HR:Hid (ParR p tb fb ((z03 1 (z0c [40] (z03 1 s).2)).2.rest.length+2) (nmB (z03 1 s).1.text) ps s s1 w (w15.setCell ⟨fb,2,none⟩ (.slice (some ⟨g8,0,none⟩) 1 cap8))):=zhi ⟨_,[nmB (z03 1 (z0c [40] (z03 1 s).2)).1.text],_,_,_,_,_,HPR.out,rfl,H14.out.push plt tlt HPS8.out HB8.out,hLL,by simp; omega⟩
   have hsb15:=HB8.out.size
   obtain ⟨wz,hwz⟩:∃ wz,wz=w15.setCell ⟨fb,2,none⟩ (.slice (some ⟨g8,0,none⟩) 1 cap8):=⟨_,rfl⟩
   rw [← hwz] at HR ⊢
   clear hwz q2 g2 d2 b2 HPR hSM hLL H14 HPS8 HB8 HRow6 HPS6 H HK hfd
   go_wp2_with fail
   go_loopw [21] (fun _ wr=>ParR p tb fb ((z03 1 (z0c [40] (z03 1 s).2)).2.rest.length+2) (nmB (z03 1 s).1.text) ps s s1 w wr) (fun _ wr=>((z03 1 (z0c [40] (z03 1 s).2)).2.rest.length+2) - z5K wr fb)
   case atStart=>exact HR.out
   case round =>
    obtain ⟨n,xs,ss,A,m,c,L,hpar,hn,hU,hl,hx⟩:=hrel
    have hm:=hU.hm
    subst hm
    clear HR
    have HU:=zhi hU
    have HPAR:=zhi hU.par
    have HP:=zhi hpar
    have HN:=zhi hn
    have Hl:=zhi hl
    have HX:=zhi hx
    have HA2:=zhi (z0F [44] wr hU.ra)
    clear hpar hn hU hl hx
    go_wp2_with fail
    refine HA2.out.mono ?_
    rintro e wc ⟨rfl,hp2,hg2⟩
    cases hv2:isR [44] ss with
    | true =>
     obtain ⟨n',rfl,hpar⟩:=z6v HP.out hv2
     rw [z0D hv2] at hp2
     have H:=zhi (HU.out.step plt hg2 hp2)
     have h22:=z1B HU.out.ra.wf hv2
     have HXL:=zhi (show xs.length≤1000000 by have:=HX.out; omega)
     have H22:=zhi h22
     have HPR:=zhi hpar
     clear hp2 hg2 HA2 hpar h22 HP
     have hsb:=H.out.lt
     have hsl:=H.out.flt
     have hszw:=H.out.gr.size
     have hr0:=H.out.row
     have b2:=cell_of_row _ _ 2 _ _ _ hr0
     clear hr0
     have HK:=zhi (show Calls Try.prog 57 #[.pointer (some ⟨p,0,none⟩),.int .i64 1] wc.drew (fun e w'=>e=.returned (.agg #[.int .i64 ((z03 1 (popR ss)).1.kind:Int),.int .i64 ((z03 1 (popR ss)).1.line:Int),.int .i64 ((z03 1 (popR ss)).1.value:Int),.string (nmB (z03 1 (popR ss)).1.text)])∧RA w' p tb (z03 1 (popR ss)).2∧World.grownBy wc.drew w' (some p)) from z3B 1 wc.drew H.out.ra.drew (by omega))
     have hfd:∀ w:World,(Instr.field 98 (.agg #[.int .i64 ((z03 1 (popR ss)).1.kind:Int),.int .i64 ((z03 1 (popR ss)).1.line:Int),.int .i64 ((z03 1 (popR ss)).1.value:Int),.string (nmB (z03 1 (popR ss)).1.text)]) 3).run Try.prog w=.ok (.string (nmB (z03 1 (popR ss)).1.text)) w:=fun _=>by kernel_rfl
     go_upto_region 6 with fail
     go_region_law
      (first
       | ((with_reducible refine z2k (k:=1) (T:=9) (S:=70) (V:=MStr) w14 rfl (.tmp 24) (.tmp 28) rfl z10 (.string ⟨#[]⟩) 16 Try.underlying70 z71 rfl (by decide) (by decide) (fb+1) (.slice A xs.length c) xs L (nmB (z03 1 (popR ss)).1.text) [.string (nmB (z03 1 (popR ss)).1.text)] (fun _=>False) rfl rfl HPS6.out HXL.out (by omega) rfl (z9v _) (z5F _ _ _) (fun b hb=>hb.elim) ?_); intro g8 cap8 w15 hps8 hg8 _; have hb8:=(z3W HPS6.out.own hg8 (by omega)); have hrow8:=((hb8.block fb (by omega)).trans HRow6.out); have q2:=(cell_of_row _ _ 2 _ _ _ hrow8); have g2:=(z09 hrow8 2); have HPS8:=zhi hps8; have HB8:=zhi hb8; clear hps8 hg8 hb8 hrow8)
       | (go_simp; go_at_call 57; (with_reducible refine HK.out.mono ?_); rintro e w14 ⟨rfl,hp6,hg6⟩; dsimp only; have hg6':=(z0K hg6); have hsw14:=hg6'.size; have hsl14:fb<w14.heap.size:=Nat.lt_of_lt_of_le hsl hg6'.size; have H14:=zhi (H.out.step plt hg6' hp6); have hrow6:=H14.out.row; have d2:=(cell_of_row _ _ 2 _ _ _ hrow6); have HRow6:=zhi hrow6; have HPS6:=zhi H14.out.ps; clear hg6 hg6' hp6 hrow6))
     all_goals
      have h22:=H22.out
      have hkl:=z0v 1 (popR ss)
      rw [z0j] at hkl
      have hu15:=H14.out.push plt tlt HPS8.out HB8.out
      have HE:Hid (ParR p tb fb ((z03 1 (z0c [40] (z03 1 s).2)).2.rest.length+2) (nmB (z03 1 s).1.text) ps s s1 w (w15.setCell ⟨fb,2,none⟩ (.slice (some ⟨g8,0,none⟩) (xs.length+1) cap8))∧((z03 1 (z0c [40] (z03 1 s).2)).2.rest.length+2) - z5K (w15.setCell ⟨fb,2,none⟩ (.slice (some ⟨g8,0,none⟩) (xs.length+1) cap8)) fb<((z03 1 (z0c [40] (z03 1 s).2)).2.rest.length+2) - z5K wr fb):=zhi ⟨⟨n',xs++[nmB (z03 1 (popR ss)).1.text],_,_,_,_,_,HPR.out,by have:=HN.out; simp; omega,hu15,by have:=Hl.out; omega,by have:=HX.out; simp; omega⟩,by rw [hu15.par,HPAR.out]; have:=HN.out; simp; omega⟩
      clear q2 g2 d2 b2 hu15 h22 hkl
      go_wp2_with fail
      exact HE.out
    | false =>
     obtain ⟨rfl,rfl⟩:=z7O HP.out hv2
     rw [z0T hv2] at hp2
     have HU2:=zhi (HU.out.step plt hg2 hp2)
     have HX8:=zhi (z0r [41] wc HU2.out.ra)
     clear hp2 hg2 HA2 HU
     go_wp2_with fail
     refine HX8.out.mono ?_
     rintro e wt ⟨⟨vt,rfl⟩,hpt,hgt⟩
     have H:=zhi (HU2.out.step plt hgt hpt)
     have hb:=HQB.out
     have hbk:=HBK.out
     have hxl2:=z0h [41] ss
     have hLL:=zhi (show (z0c [41] ss).rest.length≤s.rest.length by have:=Hl.out; omega)
     clear hpt hgt HX8 HU2 hxl2 HP HN Hl HX HPAR
     have HBc:=zhi (hbk p tb (z0c [41] ss) s' bd wt H.out.ra hb)
     clear hb
     go_wp2_with fail
     refine HBc.out.mono ?_
     rintro e wb ⟨Db,db,Ab,mb,cb,rfl,hmb,hrb,hpb,hgb,hlb⟩
     have hsb:=H.out.lt
     have hsl:=H.out.flt
     have hszt:=H.out.gr.size
     have HB:=zhi (H.out.step plt hgb hpb)
     have HRb:=zhi hrb
     have HMb:=zhi hmb
     have HLb:=zhi hlb
     have hrow:=HB.out.row
     obtain ⟨b0,b1,b2,b3⟩:=cl4 hrow
     have f3:=z09 hrow 3
     have hszb:=hgb.size
     clear hmb hrb hpb hgb hlb HBc H hrow
     go_wp2_with (with_reducible refine z7f ?_)
     refine z08.of (z00 _ rfl _ _ _ rfl w.heap.size _ rfl (by rfl) _ _ (z8E HB.out) (by kernel_rfl) (by rfl) (by simp [Value.oneCell']) ?_)
     intro w9 hrow9 hg9
     obtain ⟨j0,j1,j2,j3⟩:=cl4 hrow9
     have HH:=zhi (z8D (s:=s) HB.out HMb.out HRb.out (by omega) (by have:=HLb.out; have:=hLL.out; omega) plt tlt hg9)
     clear hrow9 hg9 b0 b1 b2 b3 f3
     go_wp2_with fail
     exact bodyPost_ret (by simp [results,Try.results39,go_sem,j0,j1,j2,j3]) rfl HH.out
end Go.Proofs.Ytleicdfkagejoaa
namespace Go.Proofs.Ytleicdfkagejoaa
open Go.RowKit
theorem RR.wrongSet {w:World} {p tb a c N:Nat} {s:RS} (h:RR w p tb a c N s) (l:Nat):RR (w.setCell ⟨p,3,none⟩ (.int .i64 (l:Int))) p tb a c N { s with wrong:=l }:=by
 obtain ⟨T,hr⟩:=h.row
 exact ⟨h.wf,h.ne,h.len,h.cap,h.sm,⟨T,z0d (i:=3) (.int .i64 (l:Int)) hr⟩,fun k t hk=>(h.tok k t hk).keep ((z05 w ⟨p,3,none⟩ _).block tb h.tlt (fun e=>by injection e with e; exact h.ne e))⟩
theorem z25 (t:Tok) (s:RS):(z20 t s).rest.length=s.rest.length:=by
 unfold z20
 split <;> rfl
def z4n:Obj:=.cells #[.string { data:=#[] },.int .i64 0] 76
def GlRG (p tb:Nat) (g:ByteArray × Int) (s s':RS) (w:World) (e:Ending) (w':World):Prop:=e=.returned (.agg #[.string g.1,.int .i64 g.2])∧RA w' p tb s'∧w.grownBy w' (some p)∧s'.rest.length≤s.rest.length
structure GlU (p tb gb:Nat) (nm:ByteArray) (sz:Int) (s:RS) (w wr:World):Prop where
 ra:RA wr p tb s
 gr:w.grownBy wr (some p)
 z:wr.heap[w.heap.size]?=some z4n
 lt:w.heap.size<gb
 row:wr.heap[gb]?=some (.cells #[.string nm,.int .i64 sz] 76 (0,0))
theorem GlU.step {p tb gb:Nat} {nm:ByteArray} {sz:Int} {s s':RS} {w wr w':World} (h:GlU p tb gb nm sz s w wr) (hp:p<w.heap.size) (hg:wr.grownBy w' (some p)) (ha:RA w' p tb s'):GlU p tb gb nm sz s' w w':=by
 have hlt:=h.lt
 exact ⟨ha,h.gr.trans hg,z04 hg (by omega) h.z,h.lt,z04 hg (by omega) h.row⟩
theorem GlU.size {p tb gb:Nat} {nm:ByteArray} {sz:Int} {s:RS} {w wr:World} (h:GlU p tb gb nm sz s w wr) (hp:p<w.heap.size) (ht:tb<w.heap.size) (sz':Int):GlU p tb gb nm sz' s w (wr.setCell ⟨gb,1,none⟩ (.int .i64 sz')):=by
 have hlt:=h.lt
 have hg:wr.grownBy (wr.setCell ⟨gb,1,none⟩ (.int .i64 sz')) (some gb):=z05 wr ⟨gb,1,none⟩ _
 exact ⟨h.ra.other hg (by omega) (by omega),z0n h.gr hg (by omega),z04 hg (by omega) h.z,h.lt,z0d (i:=1) (.int .i64 sz') h.row⟩
theorem GlU.glt {p tb gb:Nat} {nm:ByteArray} {sz:Int} {s:RS} {w wr:World} (h:GlU p tb gb nm sz s w wr):gb<wr.heap.size:=(Array.getElem?_eq_some_iff.1 h.row).1
theorem z2g {P:Program} {w:World} {ops:Array Oper} {rest:List Oper} {d:Option Tmp} {ty:TypeId} {x y:Operand} {pos:String} {af:Array Edge} {gd:Option (Nat × Bool)} {a:Act} {Q:Exit→Act→World→Prop}
  (h:z08 (wpList P ops Q ({ dst:=d,op:=.store 76 x y,type:=ty,pos:=pos,after:=af,guard:=gd } :: rest) a w)):wpList P ops Q ({ dst:=d,op:=.store 76 x y,type:=ty,pos:=pos,after:=af,guard:=gd } :: rest) a w:=h
theorem z2V {p tb gb:Nat} {nm:ByteArray} {sz:Int} {s s':RS} {w wr w9:World} (h:GlU p tb gb nm sz s' w wr) (hl:s'.rest.length≤s.rest.length) (hp:p<w.heap.size) (ht:tb<w.heap.size) (hg9:wr.grownBy w9 (some w.heap.size)):GlRG p tb (nm,sz) s s' w (.returned (.agg #[.string nm,.int .i64 sz])) w9 :=
 ⟨rfl,h.ra.other hg9 (by omega) (by omega),z0n h.gr hg9 (Nat.le_refl _),hl⟩
theorem z6D (t:Tok) (s:RS):((s.bad=false∧(t.value<1∨1024<t.value)∧s.wrong=0)∧z20 t s={ s with wrong:=t.line })∨(¬ (s.bad=false∧(t.value<1∨1024<t.value)∧s.wrong=0)∧z20 t s=s):=by
 unfold z20
 split
 ·exact .inl ⟨by assumption,rfl⟩
 ·exact .inr ⟨by assumption,rfl⟩
set_option maxRecDepth 100000 in
set_option maxHeartbeats 8000000 in
theorem z8N (p tb:Nat) (s:RS) (w:World) (h:RA w p tb s):Calls Try.prog 37 #[.pointer (some ⟨p,0,none⟩)] w (GlRG p tb (z0A s).1 s (z0A s).2 w):=by
 have plt:=h.lt.1
 have tlt:=h.lt.2.1
 have HK:=zhi (show Calls Try.prog 57 #[.pointer (some ⟨p,0,none⟩),.int .i64 1] (w.alloc z4n) (fun e w'=>e=.returned (.agg #[.int .i64 ((z03 1 s).1.kind:Int),.int .i64 ((z03 1 s).1.line:Int),.int .i64 ((z03 1 s).1.value:Int),.string (nmB (z03 1 s).1.text)])∧RA w' p tb (z03 1 s).2∧World.grownBy (w.alloc z4n) w' (some p)) from z3B 1 (w.alloc z4n) (h.alloc _) (by omega))
 have hfd:∀ w:World,(Instr.field 98 (.agg #[.int .i64 ((z03 1 s).1.kind:Int),.int .i64 ((z03 1 s).1.line:Int),.int .i64 ((z03 1 s).1.value:Int),.string (nmB (z03 1 s).1.text)]) 3).run Try.prog w=.ok (.string (nmB (z03 1 s).1.text)) w:=fun _=>by kernel_rfl
 have hb0:=(Below.refl _ w).alloc (Nat.le_refl _) z4n
 have HB0:=zhi hb0
 have HGl:=zhi (show z0A s=z0A s from rfl)
 unfold z4n at HK
 clear h hb0 HGl
 go_enter Try.func37,Try.ntmps37
 go_wp2_with fail
 refine HK.out.mono ?_
 rintro e w1 ⟨rfl,hp1,hg1⟩
 have hsz1:w.heap.size+1≤w1.heap.size:=by have:=hg1.size; simpa using this
 have hba:=(Below.refl _ w1).alloc (Nat.le_refl _) (.cells #[.string (nmB (z03 1 s).1.text),.int .i64 0] 76)
 have H0:Hid (GlU p tb w1.heap.size (nmB (z03 1 s).1.text) 0 (z03 1 s).2 w (w1.alloc (.cells #[.string (nmB (z03 1 s).1.text),.int .i64 0] 76))):=zhi ⟨hp1.alloc _,((z02 HB0.out (some p)).trans hg1).trans (z02 hba _),(hba.block _ (by omega)).trans ((hg1.block _ (by simp) (fun e=>by injection e with e; omega)).trans (heap_alloc_new w z4n)),by omega,heap_alloc_new _ _⟩
 clear HK hp1 hg1 hba HB0
 go_upto_region 2 with fail
 obtain ⟨gb,hgb⟩:∃ gb,gb=w1.heap.size:=⟨_,rfl⟩
 rw [← hgb] at H0 ⊢
 obtain ⟨w2,hw2⟩:∃ w2,w2=w1.alloc (.cells #[.string (nmB (z03 1 s).1.text),.int .i64 0] 76):=⟨_,rfl⟩
 rw [← hw2] at H0 ⊢
 clear hw2 hgb hfd
 have HA:=zhi (z0F [91] w2 H0.out.ra)
 go_wp2_with fail
 refine HA.out.mono ?_
 rintro e w3 ⟨rfl,hp3,hg3⟩
 cases hv:isR [91] (z03 1 s).2 with
 | true =>
  rw [z0D hv] at hp3
  have HGR:=zhi (show z0A s=((nmB (z03 1 s).1.text,((z03 2 (popR (z03 1 s).2)).1.value:Int)),z0c [59] (z0c [93] (z20 (z03 2 (popR (z03 1 s).2)).1 (z03 2 (popR (z03 1 s).2)).2))) by unfold z0A; rw [if_pos hv])
  have H3:=zhi (H0.out.step plt hg3 hp3)
  clear hp3 hg3 HA H0
  have HK:=zhi (show Calls Try.prog 57 #[.pointer (some ⟨p,0,none⟩),.int .i64 2] w3 (fun e w'=>e=.returned (.agg #[.int .i64 ((z03 2 (popR (z03 1 s).2)).1.kind:Int),.int .i64 ((z03 2 (popR (z03 1 s).2)).1.line:Int),.int .i64 ((z03 2 (popR (z03 1 s).2)).1.value:Int),.string (nmB (z03 2 (popR (z03 1 s).2)).1.text)])∧RA w' p tb (z03 2 (popR (z03 1 s).2)).2∧World.grownBy w3 w' (some p)) from z3B 2 w3 H3.out.ra (by omega))
  have hsb:=H3.out.lt
  have hsl:=H3.out.glt
  go_wp2_with fail
  refine HK.out.mono ?_
  rintro e w5 ⟨rfl,hp5,hg5⟩
  have hsz5:=hg5.size
  have H5:=H3.out.step plt hg5 hp5
  have hbt:=(Below.refl _ w5).alloc (Nat.le_refl _) (.cells #[.int .i64 ((z03 2 (popR (z03 1 s).2)).1.kind:Int),.int .i64 ((z03 2 (popR (z03 1 s).2)).1.line:Int),.int .i64 ((z03 2 (popR (z03 1 s).2)).1.value:Int),.string (nmB (z03 2 (popR (z03 1 s).2)).1.text)] 98)
  have H5a:=zhi (H5.step plt (z02 hbt _) (H5.ra.below hbt))
  have ht5:=heap_alloc_new w5 (.cells #[.int .i64 ((z03 2 (popR (z03 1 s).2)).1.kind:Int),.int .i64 ((z03 2 (popR (z03 1 s).2)).1.line:Int),.int .i64 ((z03 2 (popR (z03 1 s).2)).1.value:Int),.string (nmB (z03 2 (popR (z03 1 s).2)).1.text)] 98)
  have r1:=cell_of_row _ _ 1 _ _ _ ht5
  have r2:=cell_of_row _ _ 2 _ _ _ ht5
  have HT5:=zhi ht5
  clear hp5 hg5 hbt ht5 H3 HK H5
  obtain ⟨a,c,N,hr⟩:=H5a.out.ra
  have c2:=hr.cells.2.2.1
  have c3:=hr.cells.2.2.2.1
  have f3:=hr.cells.2.2.2.2 3
  have HRR:=zhi hr
  have plt5:=hr.plt
  clear hr
  have HSC:=zhi (z6D (z03 2 (popR (z03 1 s).2)).1 (z03 2 (popR (z03 1 s).2)).2)
  rcases HSC.out with ⟨⟨hbad,hval,hwr⟩,hsz⟩ | ⟨hno,hsz⟩
  ·rw [hbad] at c2
   rw [hwr] at c3
   have hq:(w5.alloc (.cells #[.int .i64 ((z03 2 (popR (z03 1 s).2)).1.kind:Int),.int .i64 ((z03 2 (popR (z03 1 s).2)).1.line:Int),.int .i64 ((z03 2 (popR (z03 1 s).2)).1.value:Int),.string (nmB (z03 2 (popR (z03 1 s).2)).1.text)] 98)).grownBy ((w5.alloc (.cells #[.int .i64 ((z03 2 (popR (z03 1 s).2)).1.kind:Int),.int .i64 ((z03 2 (popR (z03 1 s).2)).1.line:Int),.int .i64 ((z03 2 (popR (z03 1 s).2)).1.value:Int),.string (nmB (z03 2 (popR (z03 1 s).2)).1.text)] 98)).setCell ⟨p,3,none⟩ (.int .i64 ((z03 2 (popR (z03 1 s).2)).1.line:Int))) (some p):=z05 _ ⟨p,3,none⟩ _
   have H6:Hid (GlU p tb gb (nmB (z03 1 s).1.text) 0 (z20 (z03 2 (popR (z03 1 s).2)).1 (z03 2 (popR (z03 1 s).2)).2) w ((w5.alloc (.cells #[.int .i64 ((z03 2 (popR (z03 1 s).2)).1.kind:Int),.int .i64 ((z03 2 (popR (z03 1 s).2)).1.line:Int),.int .i64 ((z03 2 (popR (z03 1 s).2)).1.value:Int),.string (nmB (z03 2 (popR (z03 1 s).2)).1.text)] 98)).setCell ⟨p,3,none⟩ (.int .i64 ((z03 2 (popR (z03 1 s).2)).1.line:Int)))):=zhi (H5a.out.step plt hq (by rw [hsz]; exact ⟨_,_,_,HRR.out.wrongSet _⟩))
   have ht6:=z04 hq (by omega) HT5.out
   have q2:=cell_of_row _ _ 2 _ _ _ ht6
   clear hq ht6 hbad hwr hsz HSC hv HT5
   rcases hval with hval | hval
   ·have hval':((z03 2 (popR (z03 1 s).2)).1.value:Int)<1:=by omega
    clear hval
    have hrow6:=H6.out.row
    have b1:=cell_of_row _ _ 1 _ _ _ hrow6
    have f1:=z09 hrow6 1
    have H:=zhi (H6.out.size plt tlt (((z03 2 (popR (z03 1 s).2)).1.value:Nat):Int))
    clear hrow6 H6
    have HX7:=zhi (z0r [93] (((w5.alloc (.cells #[.int .i64 ((z03 2 (popR (z03 1 s).2)).1.kind:Int),.int .i64 ((z03 2 (popR (z03 1 s).2)).1.line:Int),.int .i64 ((z03 2 (popR (z03 1 s).2)).1.value:Int),.string (nmB (z03 2 (popR (z03 1 s).2)).1.text)] 98)).setCell ⟨p,3,none⟩ (.int .i64 ((z03 2 (popR (z03 1 s).2)).1.line:Int))).setCell ⟨gb,1,none⟩ (.int .i64 (((z03 2 (popR (z03 1 s).2)).1.value:Nat):Int))) H.out.ra)
    go_wp2_with fail
    refine HX7.out.mono ?_
    rintro e w7 ⟨⟨v7,rfl⟩,hp7,hg7⟩
    have H7:=zhi (H.out.step plt hg7 hp7)
    clear hp7 hg7 HX7 H b1 f1
    have HX8:=zhi (z0r [59] w7 H7.out.ra)
    go_wp2_with fail
    refine HX8.out.mono ?_
    rintro e w8 ⟨⟨v8,rfl⟩,hp8,hg8⟩
    have H:=zhi (H7.out.step plt hg8 hp8)
    clear hp8 hg8 HX8 H7
    have hrow:=H.out.row
    obtain ⟨b0,b1⟩:=cl2 hrow
    clear hrow
    go_wp2_with (with_reducible refine z2g ?_)
    refine z08.of (z00 _ rfl _ _ _ rfl w.heap.size _ rfl (by rfl) _ _ H.out.z (by kernel_rfl) (by rfl) (by simp [Value.oneCell']) ?_)
    intro w9 hrow9 hg9
    obtain ⟨j0,j1⟩:=cl2 hrow9
    have hH:=z2V (s:=s) H.out (by have h1:=z0h [59] (z0c [93] (z20 (z03 2 (popR (z03 1 s).2)).1 (z03 2 (popR (z03 1 s).2)).2)); have h2:=z0h [93] (z20 (z03 2 (popR (z03 1 s).2)).1 (z03 2 (popR (z03 1 s).2)).2); have h3:=z25 (z03 2 (popR (z03 1 s).2)).1 (z03 2 (popR (z03 1 s).2)).2; have h4:=z0v 2 (popR (z03 1 s).2); have h5:=z0v 1 s; rw [z0j] at h4; omega) plt tlt hg9
    have HH:Hid (GlRG p tb (z0A s).1 s (z0A s).2 w (.returned (.agg #[.string (nmB (z03 1 s).1.text),.int .i64 (((z03 2 (popR (z03 1 s).2)).1.value:Nat):Int)])) w9):=zhi (by rw [HGR.out]; exact hH)
    clear hrow9 hg9 b0 b1 hH
    go_wp2_with fail
    exact bodyPost_ret (by simp [results,Try.results37,go_sem,j0,j1]) rfl HH.out
   ·have hval':1024<((z03 2 (popR (z03 1 s).2)).1.value:Int):=by omega
    clear hval
    have hrow6:=H6.out.row
    have b1:=cell_of_row _ _ 1 _ _ _ hrow6
    have f1:=z09 hrow6 1
    have H:=zhi (H6.out.size plt tlt (((z03 2 (popR (z03 1 s).2)).1.value:Nat):Int))
    clear hrow6 H6
    have HX7:=zhi (z0r [93] (((w5.alloc (.cells #[.int .i64 ((z03 2 (popR (z03 1 s).2)).1.kind:Int),.int .i64 ((z03 2 (popR (z03 1 s).2)).1.line:Int),.int .i64 ((z03 2 (popR (z03 1 s).2)).1.value:Int),.string (nmB (z03 2 (popR (z03 1 s).2)).1.text)] 98)).setCell ⟨p,3,none⟩ (.int .i64 ((z03 2 (popR (z03 1 s).2)).1.line:Int))).setCell ⟨gb,1,none⟩ (.int .i64 (((z03 2 (popR (z03 1 s).2)).1.value:Nat):Int))) H.out.ra)
    go_wp2_with fail
    refine HX7.out.mono ?_
    rintro e w7 ⟨⟨v7,rfl⟩,hp7,hg7⟩
    have H7:=zhi (H.out.step plt hg7 hp7)
    clear hp7 hg7 HX7 H b1 f1
    have HX8:=zhi (z0r [59] w7 H7.out.ra)
    go_wp2_with fail
    refine HX8.out.mono ?_
    rintro e w8 ⟨⟨v8,rfl⟩,hp8,hg8⟩
    have H:=zhi (H7.out.step plt hg8 hp8)
    clear hp8 hg8 HX8 H7
    have hrow:=H.out.row
    obtain ⟨b0,b1⟩:=cl2 hrow
    clear hrow
    go_wp2_with (with_reducible refine z2g ?_)
    refine z08.of (z00 _ rfl _ _ _ rfl w.heap.size _ rfl (by rfl) _ _ H.out.z (by kernel_rfl) (by rfl) (by simp [Value.oneCell']) ?_)
    intro w9 hrow9 hg9
    obtain ⟨j0,j1⟩:=cl2 hrow9
    have hH:=z2V (s:=s) H.out (by have h1:=z0h [59] (z0c [93] (z20 (z03 2 (popR (z03 1 s).2)).1 (z03 2 (popR (z03 1 s).2)).2)); have h2:=z0h [93] (z20 (z03 2 (popR (z03 1 s).2)).1 (z03 2 (popR (z03 1 s).2)).2); have h3:=z25 (z03 2 (popR (z03 1 s).2)).1 (z03 2 (popR (z03 1 s).2)).2; have h4:=z0v 2 (popR (z03 1 s).2); have h5:=z0v 1 s; rw [z0j] at h4; omega) plt tlt hg9
    have HH:Hid (GlRG p tb (z0A s).1 s (z0A s).2 w (.returned (.agg #[.string (nmB (z03 1 s).1.text),.int .i64 (((z03 2 (popR (z03 1 s).2)).1.value:Nat):Int)])) w9):=zhi (by rw [HGR.out]; exact hH)
    clear hrow9 hg9 b0 b1 hH
    go_wp2_with fail
    exact bodyPost_ret (by simp [results,Try.results37,go_sem,j0,j1]) rfl HH.out
  ·have H6:Hid (GlU p tb gb (nmB (z03 1 s).1.text) 0 (z20 (z03 2 (popR (z03 1 s).2)).1 (z03 2 (popR (z03 1 s).2)).2) w (w5.alloc (.cells #[.int .i64 ((z03 2 (popR (z03 1 s).2)).1.kind:Int),.int .i64 ((z03 2 (popR (z03 1 s).2)).1.line:Int),.int .i64 ((z03 2 (popR (z03 1 s).2)).1.value:Int),.string (nmB (z03 2 (popR (z03 1 s).2)).1.text)] 98))):=zhi (by rw [hsz]; exact H5a.out)
   clear hsz HSC hv HT5 f3
   cases hbad:(z03 2 (popR (z03 1 s).2)).2.bad with
   | true =>
    rw [hbad] at c2
    clear hno hbad
    have hrow6:=H6.out.row
    have b1:=cell_of_row _ _ 1 _ _ _ hrow6
    have f1:=z09 hrow6 1
    have H:=zhi (H6.out.size plt tlt (((z03 2 (popR (z03 1 s).2)).1.value:Nat):Int))
    clear hrow6 H6
    have HX7:=zhi (z0r [93] ((w5.alloc (.cells #[.int .i64 ((z03 2 (popR (z03 1 s).2)).1.kind:Int),.int .i64 ((z03 2 (popR (z03 1 s).2)).1.line:Int),.int .i64 ((z03 2 (popR (z03 1 s).2)).1.value:Int),.string (nmB (z03 2 (popR (z03 1 s).2)).1.text)] 98)).setCell ⟨gb,1,none⟩ (.int .i64 (((z03 2 (popR (z03 1 s).2)).1.value:Nat):Int))) H.out.ra)
    go_wp2_with fail
    refine HX7.out.mono ?_
    rintro e w7 ⟨⟨v7,rfl⟩,hp7,hg7⟩
    have H7:=zhi (H.out.step plt hg7 hp7)
    clear hp7 hg7 HX7 H b1 f1
    have HX8:=zhi (z0r [59] w7 H7.out.ra)
    go_wp2_with fail
    refine HX8.out.mono ?_
    rintro e w8 ⟨⟨v8,rfl⟩,hp8,hg8⟩
    have H:=zhi (H7.out.step plt hg8 hp8)
    clear hp8 hg8 HX8 H7
    have hrow:=H.out.row
    obtain ⟨b0,b1⟩:=cl2 hrow
    clear hrow
    go_wp2_with (with_reducible refine z2g ?_)
    refine z08.of (z00 _ rfl _ _ _ rfl w.heap.size _ rfl (by rfl) _ _ H.out.z (by kernel_rfl) (by rfl) (by simp [Value.oneCell']) ?_)
    intro w9 hrow9 hg9
    obtain ⟨j0,j1⟩:=cl2 hrow9
    have hH:=z2V (s:=s) H.out (by have h1:=z0h [59] (z0c [93] (z20 (z03 2 (popR (z03 1 s).2)).1 (z03 2 (popR (z03 1 s).2)).2)); have h2:=z0h [93] (z20 (z03 2 (popR (z03 1 s).2)).1 (z03 2 (popR (z03 1 s).2)).2); have h3:=z25 (z03 2 (popR (z03 1 s).2)).1 (z03 2 (popR (z03 1 s).2)).2; have h4:=z0v 2 (popR (z03 1 s).2); have h5:=z0v 1 s; rw [z0j] at h4; omega) plt tlt hg9
    have HH:Hid (GlRG p tb (z0A s).1 s (z0A s).2 w (.returned (.agg #[.string (nmB (z03 1 s).1.text),.int .i64 (((z03 2 (popR (z03 1 s).2)).1.value:Nat):Int)])) w9):=zhi (by rw [HGR.out]; exact hH)
    clear hrow9 hg9 b0 b1 hH
    go_wp2_with fail
    exact bodyPost_ret (by simp [results,Try.results37,go_sem,j0,j1]) rfl HH.out
   | false =>
    rw [hbad] at c2
    by_cases hval:1≤(z03 2 (popR (z03 1 s).2)).1.value∧(z03 2 (popR (z03 1 s).2)).1.value≤1024
    ·obtain ⟨hv1,hv2⟩:=hval
     have hv1':¬ ((z03 2 (popR (z03 1 s).2)).1.value:Int)<1:=by omega
     have hv2':¬ 1024<((z03 2 (popR (z03 1 s).2)).1.value:Int):=by omega
     clear hno hbad hv1 hv2
     have hrow6:=H6.out.row
     have b1:=cell_of_row _ _ 1 _ _ _ hrow6
     have f1:=z09 hrow6 1
     have H:=zhi (H6.out.size plt tlt (((z03 2 (popR (z03 1 s).2)).1.value:Nat):Int))
     clear hrow6 H6
     have HX7:=zhi (z0r [93] ((w5.alloc (.cells #[.int .i64 ((z03 2 (popR (z03 1 s).2)).1.kind:Int),.int .i64 ((z03 2 (popR (z03 1 s).2)).1.line:Int),.int .i64 ((z03 2 (popR (z03 1 s).2)).1.value:Int),.string (nmB (z03 2 (popR (z03 1 s).2)).1.text)] 98)).setCell ⟨gb,1,none⟩ (.int .i64 (((z03 2 (popR (z03 1 s).2)).1.value:Nat):Int))) H.out.ra)
     go_wp2_with fail
     refine HX7.out.mono ?_
     rintro e w7 ⟨⟨v7,rfl⟩,hp7,hg7⟩
     have H7:=zhi (H.out.step plt hg7 hp7)
     clear hp7 hg7 HX7 H b1 f1
     have HX8:=zhi (z0r [59] w7 H7.out.ra)
     go_wp2_with fail
     refine HX8.out.mono ?_
     rintro e w8 ⟨⟨v8,rfl⟩,hp8,hg8⟩
     have H:=zhi (H7.out.step plt hg8 hp8)
     clear hp8 hg8 HX8 H7
     have hrow:=H.out.row
     obtain ⟨b0,b1⟩:=cl2 hrow
     clear hrow
     go_wp2_with (with_reducible refine z2g ?_)
     refine z08.of (z00 _ rfl _ _ _ rfl w.heap.size _ rfl (by rfl) _ _ H.out.z (by kernel_rfl) (by rfl) (by simp [Value.oneCell']) ?_)
     intro w9 hrow9 hg9
     obtain ⟨j0,j1⟩:=cl2 hrow9
     have hH:=z2V (s:=s) H.out (by have h1:=z0h [59] (z0c [93] (z20 (z03 2 (popR (z03 1 s).2)).1 (z03 2 (popR (z03 1 s).2)).2)); have h2:=z0h [93] (z20 (z03 2 (popR (z03 1 s).2)).1 (z03 2 (popR (z03 1 s).2)).2); have h3:=z25 (z03 2 (popR (z03 1 s).2)).1 (z03 2 (popR (z03 1 s).2)).2; have h4:=z0v 2 (popR (z03 1 s).2); have h5:=z0v 1 s; rw [z0j] at h4; omega) plt tlt hg9
     have HH:Hid (GlRG p tb (z0A s).1 s (z0A s).2 w (.returned (.agg #[.string (nmB (z03 1 s).1.text),.int .i64 (((z03 2 (popR (z03 1 s).2)).1.value:Nat):Int)])) w9):=zhi (by rw [HGR.out]; exact hH)
     clear hrow9 hg9 b0 b1 hH
     go_wp2_with fail
     exact bodyPost_ret (by simp [results,Try.results37,go_sem,j0,j1]) rfl HH.out
    ·have hwr:(((z03 2 (popR (z03 1 s).2)).2.wrong:Int) == 0)=false:=by
      have hne:(z03 2 (popR (z03 1 s).2)).2.wrong≠0:=fun h=>hno ⟨hbad,by omega,h⟩
      simp; omega
     have hval':((z03 2 (popR (z03 1 s).2)).1.value:Int)<1∨1024<((z03 2 (popR (z03 1 s).2)).1.value:Int):=by omega
     clear hno hbad hval
     rcases hval' with hval' | hval'
     ·skip
      have hrow6:=H6.out.row
      have b1:=cell_of_row _ _ 1 _ _ _ hrow6
      have f1:=z09 hrow6 1
      have H:=zhi (H6.out.size plt tlt (((z03 2 (popR (z03 1 s).2)).1.value:Nat):Int))
      clear hrow6 H6
      have HX7:=zhi (z0r [93] ((w5.alloc (.cells #[.int .i64 ((z03 2 (popR (z03 1 s).2)).1.kind:Int),.int .i64 ((z03 2 (popR (z03 1 s).2)).1.line:Int),.int .i64 ((z03 2 (popR (z03 1 s).2)).1.value:Int),.string (nmB (z03 2 (popR (z03 1 s).2)).1.text)] 98)).setCell ⟨gb,1,none⟩ (.int .i64 (((z03 2 (popR (z03 1 s).2)).1.value:Nat):Int))) H.out.ra)
      go_wp2_with fail
      refine HX7.out.mono ?_
      rintro e w7 ⟨⟨v7,rfl⟩,hp7,hg7⟩
      have H7:=zhi (H.out.step plt hg7 hp7)
      clear hp7 hg7 HX7 H b1 f1
      have HX8:=zhi (z0r [59] w7 H7.out.ra)
      go_wp2_with fail
      refine HX8.out.mono ?_
      rintro e w8 ⟨⟨v8,rfl⟩,hp8,hg8⟩
      have H:=zhi (H7.out.step plt hg8 hp8)
      clear hp8 hg8 HX8 H7
      have hrow:=H.out.row
      obtain ⟨b0,b1⟩:=cl2 hrow
      clear hrow
      go_wp2_with (with_reducible refine z2g ?_)
      refine z08.of (z00 _ rfl _ _ _ rfl w.heap.size _ rfl (by rfl) _ _ H.out.z (by kernel_rfl) (by rfl) (by simp [Value.oneCell']) ?_)
      intro w9 hrow9 hg9
      obtain ⟨j0,j1⟩:=cl2 hrow9
      have hH:=z2V (s:=s) H.out (by have h1:=z0h [59] (z0c [93] (z20 (z03 2 (popR (z03 1 s).2)).1 (z03 2 (popR (z03 1 s).2)).2)); have h2:=z0h [93] (z20 (z03 2 (popR (z03 1 s).2)).1 (z03 2 (popR (z03 1 s).2)).2); have h3:=z25 (z03 2 (popR (z03 1 s).2)).1 (z03 2 (popR (z03 1 s).2)).2; have h4:=z0v 2 (popR (z03 1 s).2); have h5:=z0v 1 s; rw [z0j] at h4; omega) plt tlt hg9
      have HH:Hid (GlRG p tb (z0A s).1 s (z0A s).2 w (.returned (.agg #[.string (nmB (z03 1 s).1.text),.int .i64 (((z03 2 (popR (z03 1 s).2)).1.value:Nat):Int)])) w9):=zhi (by rw [HGR.out]; exact hH)
      clear hrow9 hg9 b0 b1 hH
      go_wp2_with fail
      exact bodyPost_ret (by simp [results,Try.results37,go_sem,j0,j1]) rfl HH.out
     ·skip
      have hrow6:=H6.out.row
      have b1:=cell_of_row _ _ 1 _ _ _ hrow6
      have f1:=z09 hrow6 1
      have H:=zhi (H6.out.size plt tlt (((z03 2 (popR (z03 1 s).2)).1.value:Nat):Int))
      clear hrow6 H6
      have HX7:=zhi (z0r [93] ((w5.alloc (.cells #[.int .i64 ((z03 2 (popR (z03 1 s).2)).1.kind:Int),.int .i64 ((z03 2 (popR (z03 1 s).2)).1.line:Int),.int .i64 ((z03 2 (popR (z03 1 s).2)).1.value:Int),.string (nmB (z03 2 (popR (z03 1 s).2)).1.text)] 98)).setCell ⟨gb,1,none⟩ (.int .i64 (((z03 2 (popR (z03 1 s).2)).1.value:Nat):Int))) H.out.ra)
      go_wp2_with fail
      refine HX7.out.mono ?_
      rintro e w7 ⟨⟨v7,rfl⟩,hp7,hg7⟩
      have H7:=zhi (H.out.step plt hg7 hp7)
      clear hp7 hg7 HX7 H b1 f1
      have HX8:=zhi (z0r [59] w7 H7.out.ra)
      go_wp2_with fail
      refine HX8.out.mono ?_
      rintro e w8 ⟨⟨v8,rfl⟩,hp8,hg8⟩
      have H:=zhi (H7.out.step plt hg8 hp8)
      clear hp8 hg8 HX8 H7
      have hrow:=H.out.row
      obtain ⟨b0,b1⟩:=cl2 hrow
      clear hrow
      go_wp2_with (with_reducible refine z2g ?_)
      refine z08.of (z00 _ rfl _ _ _ rfl w.heap.size _ rfl (by rfl) _ _ H.out.z (by kernel_rfl) (by rfl) (by simp [Value.oneCell']) ?_)
      intro w9 hrow9 hg9
      obtain ⟨j0,j1⟩:=cl2 hrow9
      have hH:=z2V (s:=s) H.out (by have h1:=z0h [59] (z0c [93] (z20 (z03 2 (popR (z03 1 s).2)).1 (z03 2 (popR (z03 1 s).2)).2)); have h2:=z0h [93] (z20 (z03 2 (popR (z03 1 s).2)).1 (z03 2 (popR (z03 1 s).2)).2); have h3:=z25 (z03 2 (popR (z03 1 s).2)).1 (z03 2 (popR (z03 1 s).2)).2; have h4:=z0v 2 (popR (z03 1 s).2); have h5:=z0v 1 s; rw [z0j] at h4; omega) plt tlt hg9
      have HH:Hid (GlRG p tb (z0A s).1 s (z0A s).2 w (.returned (.agg #[.string (nmB (z03 1 s).1.text),.int .i64 (((z03 2 (popR (z03 1 s).2)).1.value:Nat):Int)])) w9):=zhi (by rw [HGR.out]; exact hH)
      clear hrow9 hg9 b0 b1 hH
      go_wp2_with fail
      exact bodyPost_ret (by simp [results,Try.results37,go_sem,j0,j1]) rfl HH.out
 | false =>
  rw [z0T hv] at hp3
  have HGR:=zhi (show z0A s=((nmB (z03 1 s).1.text,0),z0c [59] (z03 1 s).2) by unfold z0A; rw [if_neg (by rw [hv]; decide)])
  have H3:=zhi (H0.out.step plt hg3 hp3)
  clear hp3 hg3 HA H0
  have HX8:=zhi (z0r [59] w3 H3.out.ra)
  go_wp2_with fail
  refine HX8.out.mono ?_
  rintro e w8 ⟨⟨v8,rfl⟩,hp8,hg8⟩
  have H:=zhi (H3.out.step plt hg8 hp8)
  clear hp8 hg8 HX8 H3
  have hrow:=H.out.row
  obtain ⟨b0,b1⟩:=cl2 hrow
  clear hrow
  go_wp2_with (with_reducible refine z2g ?_)
  refine z08.of (z00 _ rfl _ _ _ rfl w.heap.size _ rfl (by rfl) _ _ H.out.z (by kernel_rfl) (by rfl) (by simp [Value.oneCell']) ?_)
  intro w9 hrow9 hg9
  obtain ⟨j0,j1⟩:=cl2 hrow9
  have hH:=z2V (s:=s) H.out (by have h1:=z0h [59] (z03 1 s).2; have h5:=z0v 1 s; omega) plt tlt hg9
  have HH:Hid (GlRG p tb (z0A s).1 s (z0A s).2 w (.returned (.agg #[.string (nmB (z03 1 s).1.text),.int .i64 0])) w9):=zhi (by rw [HGR.out]; exact hH)
  clear hrow9 hg9 b0 b1 hH
  go_wp2_with fail
  exact bodyPost_ret (by simp [results,Try.results37,go_sem,j0,j1]) rfl HH.out
end Go.Proofs.Ytleicdfkagejoaa
namespace Go.Proofs.Ytleicdfkagejoaa
open Go.RowKit
theorem RowG.keep {α:Type} {k:Nat} {V:z1A α} {F G:Nat→Prop} {w w':World} {xs:List α} {A:Option Addr} {c:Nat} (hV:V.Keeps) (hFG:∀ b,F b→G b) (hk:∀ b,F b→w'.heap[b]?=w.heap[b]?) (h:RowG k V F w xs A c):RowG k V G w' xs A c:=by
 refine ⟨h.1,fun i x hi=>?_⟩
 obtain ⟨g,cs,h1,h2,h3,h4,h5⟩:=h.2 i x hi
 exact ⟨g,cs,h1,hFG g h2,h3,fun j u hu=>(World.cell?_of_block (hk g h2)).trans (h4 j u hu),hV _ _ _ _ _ _ hFG hk h5⟩
def MFn (D d:Nat):z1A Fn:=fun F w f cs=>∃ A m c bA bm bc,cs=[.string f.name,.int .i64 f.line,.slice A m c,.slice bA bm bc]∧m=f.params.length∧bm=f.body.length∧RowG 1 MStr F w f.params A c∧RowS F w D d f.body bA bc
theorem z1M (D d:Nat):(MFn D d).Keeps:=by
 intro F G w w' f cs hFG hk h
 obtain ⟨A,m,c,bA,bm,bc,h1,h2,h3,h4,h5⟩:=h
 exact ⟨A,m,c,bA,bm,bc,h1,h2,h3,h4.keep z10 hFG hk,RowS.keep hFG hk h5⟩
theorem MFn.up {D d:Nat} {F:Nat→Prop} {w:World} {f:Fn} {cs:List Value} (h:MFn D d F w f cs) (m n:Nat):MFn (D+m) (d+(n+1)) F w f cs:=by
 obtain ⟨A,q,c,bA,bm,bc,h1,h2,h3,h4,h5⟩:=h
 exact ⟨A,q,c,bA,bm,bc,h1,h2,h3,h4,h5.more m n⟩
def MFnX (D d X:Nat):z1A Fn:=fun F w f cs=>MFn D d (fun b=>F b∧b≠X) w f cs
theorem z1b (D d X:Nat):(MFnX D d X).Keeps:=fun _ _ _ _ _ _ hFG hk h=>z1M D d _ _ _ _ _ _ (fun b hb=>⟨hFG b hb.1,hb.2⟩) (fun b hb=>hk b hb.1) h
theorem zcB:(Try.prog.info? 73).map (fun i=>(i.zero,i.size,i.bytes))=some (some (.agg #[.string ⟨#[]⟩,.int .i64 0,.slice none 0 0,.slice none 0 0]),4,72):=by kernel_rfl
set_option maxRecDepth 10000 in
theorem z3K {α:Type} {k:Nat} {T S:TypeId} {V:z1A α} {ops:Array Oper} {rest:List Oper} {o:Oper} {a:Act} {Q:Exit→Act→World→Prop} (w:World) (hgd:o.guard=none) (s x:Operand)
  (ho:o.op=.call { callee:=.builtin .append,args:=#[s,x],argTypes:=#[S,S] }) (hV:V.Keeps) (z:Value) (bytes:Nat) (ht:Try.prog.underlying S=some (.slice T)) (hinfo:(Try.prog.info? T).map (fun i=>(i.zero,i.size,i.bytes))=some (some z,k,bytes)) (hzs:z.cells.size=k) (hk0:0<k) (hb0:bytes≤1000)
  (base:Nat) (v:Value) (xs:List α) (L:List Value) (y:α) (cs:List Value) (F:Nat→Prop)
  (hs:a.eval s=v) (hx:a.eval x=.slice (some ⟨w.heap.size,0,none⟩) 1 1) (h:GRow k T V base w v xs L) (hlen:xs.length≤1000000) (hbase:base≤w.heap.size)
  (hcs:cs.length=k) (h1:∀ u∈cs,u.oneCell'=true) (hy:V F w y cs) (hF:∀ b,F b→base≤b∧b<w.heap.size∧v.ownBlock≠some b)
  (hk:∀ g cap w',GRow k T V base w' (.slice (some ⟨g,0,none⟩) (xs.length+1) cap) (xs++[y]) (L++cs)→w.grownBy w' v.ownBlock→(v.ownBlock=some g∨w.heap.size≤g)→wpList Try.prog ops Q rest (a.put o.dst (.slice (some ⟨g,0,none⟩) (xs.length+1) cap)) w') :
  wpList Try.prog ops Q (o :: rest) a (w.alloc (.cells cs.toArray T)):=by
 obtain ⟨i,hi,hz,hsz,hby⟩:=info_parts hinfo
 have hmul:(xs.length+1) * bytes≤1000001 * 1000:=Nat.mul_le_mul (by omega) hb0
 refine wpList_append_lies _ hgd s x _ ho base T i z k bytes ht hi hz hsz hby hzs hk0 v xs.length L hs (h.own.alloc _) ⟨w.heap.size,0,none⟩ 1 1 cs hx (by omega) ?_ h1 (by decide) (by unfold maxLen; omega) (by omega) (by simp; omega) _ rfl fun g cap w' h1 h2 h3 _=>hk g cap w' (h.push hV hcs hy hF h1 ((Below.refl _ w).alloc (Nat.le_refl _) _) h2 h3) ((World.grownBy_alloc _ _ _).trans h2) (h3.imp id (fun e=>by rw [e]; simp))
 intro j u hu
 rw [Addr.add_lit,Nat.zero_add]
 exact (cell_of_row _ _ _ _ _ _ (heap_alloc_new w _)).trans (by simpa using hu)
def z18:Obj:=.cells #[.slice none 0 0,.slice none 0 0] 30
def obk (v:Value):Nat:=v.ownBlock.getD 0
structure SrcU (p tb pb:Nat) (gl:Gls) (fl:List Fn) (s:RS) (w wr:World) (gA:Option Addr) (gm gc:Nat) (Lg:List Value) (fA:Option Addr) (fm fc:Nat) (Lf:List Value) (D d:Nat):Prop where
 ra:RA wr p tb s
 gr:w.grownBy wr (some p)
 z:wr.heap[w.heap.size]?=some z18
 lt:w.heap.size<pb
 row:wr.heap[pb]?=some (.cells #[.slice gA gm gc,.slice fA fm fc] 30 (0,0))
 hgm:gm=gl.length
 hfm:fm=fl.length
 gs:GRow 2 76 MGl (pb+1) wr (.slice gA gm gc) gl Lg
 fs:GRow 4 73 (MFnX D d (obk (.slice gA gm gc))) (pb+1) wr (.slice fA fm fc) fl Lf
 sep:∀ b,(Value.slice fA fm fc).ownBlock=some b→b≠obk (.slice gA gm gc)
section
variable {p tb pb:Nat} {gl:Gls} {fl:List Fn} {s s':RS} {w wr w':World} {gA fA:Option Addr} {gm gc fm fc D d:Nat} {Lg Lf:List Value}
theorem SrcU.plt (h:SrcU p tb pb gl fl s w wr gA gm gc Lg fA fm fc Lf D d):pb<wr.heap.size:=(Array.getElem?_eq_some_iff.1 h.row).1
theorem SrcU.step (h:SrcU p tb pb gl fl s w wr gA gm gc Lg fA fm fc Lf D d) (hp:p<w.heap.size) (hg:wr.grownBy w' (some p)) (ha:RA w' p tb s'):SrcU p tb pb gl fl s' w w' gA gm gc Lg fA fm fc Lf D d:=by
 have hlt:=h.lt
 exact ⟨ha,h.gr.trans hg,z04 hg (by omega) h.z,h.lt,z04 hg (by omega) h.row,h.hgm,h.hfm,h.gs.grown z13 hg (by omega),h.fs.grown (z1b _ _ _) hg (by omega),h.sep⟩
theorem GRow.other {α:Type} {k:Nat} {T:TypeId} {V:z1A α} {base:Nat} {v:Value} {xs:List α} {L:List Value} {o:Option Nat} (hV:∀ F G w w' x cs,V F w x cs→V G w' x cs) (h:GRow k T V base w v xs L) (hg:w.grownBy w' o) (hne:∀ b,v.ownBlock=some b→o≠some b):GRow k T V base w' v xs L:=by
 refine ⟨?_,fun j x hj=>?_⟩
 ·rcases h.own.2 with hn | ⟨g',cap,cur,e,hb',hh,rest⟩
  ·exact ⟨h.own.1,.inl hn⟩
  ·exact ⟨h.own.1,.inr ⟨g',cap,cur,e,hb',(hg.block g' (Array.getElem?_eq_some_iff.1 hh).1 (fun e2=>hne g' (by rw [e]; rfl) e2.symm)).trans hh,rest⟩⟩
 ·obtain ⟨cs,h1,h2,h3⟩:=h.at_ j x hj
  exact ⟨cs,h1,h2,hV _ _ _ _ _ _ h3⟩
theorem zcs {X g8 base:Nat} {gv fv:Value} (h:GRow 4 73 (MFnX D d X) base w fv fl Lf) (hX:∀ b,gv.ownBlock=some b→b=X) (hsep:∀ b,fv.ownBlock=some b→b≠X) (hg:w.grownBy w' gv.ownBlock) (hg8:gv.ownBlock=some g8∨w.heap.size≤g8):GRow 4 73 (MFnX D d g8) base w' fv fl Lf∧∀ b,fv.ownBlock=some b→b≠g8:=by
 have hne:∀ b,b<w.heap.size→b≠X→b≠g8:=fun b hb hx e=>by
  rcases hg8 with h8 | h8
  ·exact hx (e.trans (hX g8 h8))
  ·omega
 refine ⟨⟨?_,fun j x hj=>?_⟩,fun b hb=>hne b (h.own.lt b hb).2 (hsep b hb)⟩
 ·rcases h.own.2 with hn | ⟨g',cap,cur,e,hb',hh,rest⟩
  ·exact ⟨h.own.1,.inl hn⟩
  ·exact ⟨h.own.1,.inr ⟨g',cap,cur,e,hb',(hg.block g' (Array.getElem?_eq_some_iff.1 hh).1 (fun e2=>hsep g' (by rw [e]; rfl) (hX g' e2.symm))).trans hh,rest⟩⟩
 ·obtain ⟨cs,h1,h2,h3⟩:=h.at_ j x hj
  exact ⟨cs,h1,h2,z1M D d _ _ _ _ _ _ (fun b hb=>⟨⟨hb.1.1,Nat.lt_of_lt_of_le hb.1.2.1 hg.size,hb.1.2.2⟩,hne b hb.1.2.1 hb.2⟩) (fun b hb=>hg.block b hb.1.2.1 (fun e=>hb.2 (hX b e.symm))) h3⟩
theorem zbW {v:Value}:∀ b,v.ownBlock=some b→b=obk v:=fun b hb=>by rw [obk,hb]; rfl
theorem zdK {v:Value} {n:Nat} (h:∀ b,v.ownBlock=some b→b<n) (hn:0<n):obk v<n:=by
 cases e:v.ownBlock with
 | none=>rw [obk,e]; exact hn
 | some b=>rw [obk,e]; exact h b e
theorem SrcU.pushG {y:ByteArray × Int} {g8 cap:Nat} {w2:World} {cs:List Value} (h:SrcU p tb pb gl fl s w wr gA gm gc Lg fA fm fc Lf D d) (hp:p<w.heap.size) (ht:tb<w.heap.size) (h2:GRow 2 76 MGl (pb+1) w2 (.slice (some ⟨g8,0,none⟩) (gl.length+1) cap) (gl++[y]) (Lg++cs)) (hg:wr.grownBy w2 (Value.slice gA gm gc).ownBlock) (hg8:(Value.slice gA gm gc).ownBlock=some g8∨wr.heap.size≤g8) :
  SrcU p tb pb (gl++[y]) fl s w (w2.setCell ⟨pb,0,none⟩ (.slice (some ⟨g8,0,none⟩) (gl.length+1) cap)) (some ⟨g8,0,none⟩) (gl.length+1) cap (Lg++cs) fA fm fc Lf D d:=by
 have hlt:=h.lt
 have hpl:=h.plt
 have hb:Below (pb+1) wr w2:=z07 hg (fun k hk=>(h.gs.own.lt k hk).1) (by omega)
 have hs:w2.grownBy (w2.setCell ⟨pb,0,none⟩ (.slice (some ⟨g8,0,none⟩) (gl.length+1) cap)) (some pb):=z05 w2 ⟨pb,0,none⟩ _
 obtain ⟨hf,hsep⟩:=zcs h.fs zbW h.sep hg hg8
 have hr2:=(hb.block pb (by omega)).trans h.row
 exact ⟨(h.ra.low hb (by omega) (by omega)).other hs (by omega) (by omega),z0n (z1y h.gr hb (by omega)) hs (by omega),z04 hs (by omega) ((hb.block _ (by omega)).trans h.z),h.lt,z0d (i:=0) (.slice (some ⟨g8,0,none⟩) (gl.length+1) cap) hr2,by simp,h.hfm,h2.grown z13 hs (by omega),hf.grown (z1b _ _ _) hs (by omega),hsep⟩
theorem SrcU.pushF {y:Fn} {g8 cap D' d':Nat} {w1 w2:World} {cs:List Value} (h:SrcU p tb pb gl fl s w wr gA gm gc Lg fA fm fc Lf D d) (hp:p<w.heap.size) (ht:tb<w.heap.size) (hb1:Below wr.heap.size wr w1) (h2:GRow 4 73 (MFnX D' d' (obk (.slice gA gm gc))) (pb+1) w2 (.slice (some ⟨g8,0,none⟩) (fl.length+1) cap) (fl++[y]) (Lf++cs)) (hg:w1.grownBy w2 (Value.slice fA fm fc).ownBlock) (hg8:(Value.slice fA fm fc).ownBlock=some g8∨w1.heap.size≤g8) :
  SrcU p tb pb gl (fl++[y]) s w (w2.setCell ⟨pb,1,none⟩ (.slice (some ⟨g8,0,none⟩) (fl.length+1) cap)) gA gm gc Lg (some ⟨g8,0,none⟩) (fl.length+1) cap (Lf++cs) D' d':=by
 have hlt:=h.lt
 have hpl:=h.plt
 have hs1:=hb1.size
 have hb:Below (pb+1) wr w2:=(hb1.mono (by omega)).trans (z07 hg (fun k hk=>(h.fs.own.lt k hk).1) (by omega))
 have hs:w2.grownBy (w2.setCell ⟨pb,1,none⟩ (.slice (some ⟨g8,0,none⟩) (fl.length+1) cap)) (some pb):=z05 w2 ⟨pb,1,none⟩ _
 have hr2:=(hb.block pb (by omega)).trans h.row
 have hgs:=((h.gs.other (o:=none) (fun _ _ _ _ _ _ h=>h) ⟨hb1.os,hb1.tape,hb1.output,hb1.size,fun k hk _=>hb1.block k hk⟩ (fun _ _ e=>by cases e)).other (fun _ _ _ _ _ _ h=>h) hg (fun b hb e=>h.sep b e (zbW b hb)))
 refine ⟨(h.ra.low hb (by omega) (by omega)).other hs (by omega) (by omega),z0n (z1y h.gr hb (by omega)) hs (by omega),z04 hs (by omega) ((hb.block _ (by omega)).trans h.z),h.lt,z0d (i:=1) (.slice (some ⟨g8,0,none⟩) (fl.length+1) cap) hr2,h.hgm,by simp,hgs.grown z13 hs (by omega),h2.grown (z1b _ _ _) hs (by omega),?_⟩
 intro b hb
 have e:g8=b:=by simpa [Value.ownBlock] using hb
 subst e
 rcases hg8 with h8 | h8
 ·exact h.sep _ h8
 ·intro e
  by_cases hn:(Value.slice gA gm gc).ownBlock=none
  ·rw [obk,hn] at e
   simp at e
   omega
  ·obtain ⟨b,hb⟩:=Option.ne_none_iff_exists'.1 hn
   have:=(h.gs.own.lt b hb).2
   rw [obk,hb] at e
   simp at e
   omega
end
def zdk (p tb:Nat) (gl:Gls) (fl:List Fn) (s s':RS) (w:World) (e:Ending) (w':World):Prop:=∃ D d gA gm gc fA fm fc,e=.returned (.agg #[.slice gA gm gc,.slice fA fm fc])∧gm=gl.length∧fm=fl.length ∧
 RowG 2 MGl (fun q=>w.heap.size≤q∧q<w'.heap.size) w' gl gA gc∧RowG 4 (MFn D d) (fun q=>w.heap.size≤q∧q<w'.heap.size) w' fl fA fc∧RA w' p tb s'∧w.grownBy w' (some p)∧s'.rest.length≤s.rest.length
theorem z7m {p tb pb:Nat} {gl:Gls} {fl:List Fn} {s s':RS} {w wr w9:World} {gA fA:Option Addr} {gm gc fm fc D d:Nat} {Lg Lf:List Value} (h:SrcU p tb pb gl fl s' w wr gA gm gc Lg fA fm fc Lf D d) (hl:s'.rest.length≤s.rest.length) (hp:p<w.heap.size) (ht:tb<w.heap.size) (hg9:wr.grownBy w9 (some w.heap.size)):zdk p tb gl fl s s' w (.returned (.agg #[.slice gA gm gc,.slice fA fm fc])) w9:=by
 have hlt:=h.lt
 have h1:=((h.gs.grown z13 hg9 (by omega)).row z13).2
 have h2:=((h.fs.grown (z1b _ _ _) hg9 (by omega)).row (z1b _ _ _)).2
 refine ⟨D,d,gA,gm,gc,fA,fm,fc,rfl,h.hgm,h.hfm,h1.keep z13 (fun b hb=>⟨by omega,hb.2⟩) (fun _ _=>rfl),⟨h2.1,fun i x hi=>?_⟩,h.ra.other hg9 (by omega) (by omega),z0n h.gr hg9 (Nat.le_refl _),hl⟩
 obtain ⟨g,cs,q1,q2,q3,q4,q5⟩:=h2.2 i x hi
 exact ⟨g,cs,q1,⟨by omega,q2.2⟩,q3,q4,z1M D d _ _ _ _ _ _ (fun b hb=>⟨by have:=hb.1.1; omega,hb.1.2⟩) (fun _ _=>rfl) q5⟩
theorem zaH {f:Fn} {ln:Int} {n0 X D d Df df m c bm bc:Nat} {A bA:Option Addr} {w:World} (hm:m=f.params.length) (hbm:bm=f.body.length) (hps:RowG 1 MStr (fun q=>n0≤q∧q<w.heap.size) w f.params A c) (hbd:RowS (fun q=>n0≤q∧q<w.heap.size) w Df df f.body bA bc) (hX:X<n0) :
  MFnX (D+Df) (d+df+1) X (fun q=>n0≤q∧q<w.heap.size) w { f with line:=ln } [.string f.name,.int .i64 ln,.slice A m c,.slice bA bm bc]:=by
 refine ⟨A,m,c,bA,bm,bc,rfl,hm,hbm,hps.keep z10 (fun b hb=>⟨hb,by have:=hb.1; omega⟩) (fun _ _=>rfl),RowS.keep (fun b hb=>⟨hb,by have:=hb.1; omega⟩) (fun _ _=>rfl) ?_⟩
 have:=hbd.more D d
 have e:df+(d+1)=d+df+1:=by omega
 rw [Nat.add_comm Df D,e] at this
 exact this
def z4i (w:World) (b:Nat):Nat:=match w.cell? ⟨b,0,none⟩,w.cell? ⟨b,1,none⟩ with | some (.slice _ n _),some (.slice _ m _)=>n+m | _,_=>0
theorem SrcU.len {p tb pb:Nat} {gl:Gls} {fl:List Fn} {s:RS} {w wr:World} {gA fA:Option Addr} {gm gc fm fc D d:Nat} {Lg Lf:List Value} (h:SrcU p tb pb gl fl s w wr gA gm gc Lg fA fm fc Lf D d):z4i wr pb=gl.length+fl.length:=by
 have e0:wr.cell? ⟨pb,0,none⟩=some (.slice gA gm gc):=by rw [cell_of_row _ _ 0 _ _ _ h.row]; rfl
 have e1:wr.cell? ⟨pb,1,none⟩=some (.slice fA fm fc):=by rw [cell_of_row _ _ 1 _ _ _ h.row]; rfl
 rw [z4i,e0,e1,← h.hgm,← h.hfm]
def zaw (B:RSL) (p tb pb n0:Nat) (G:Gls) (Fs:List Fn) (s s':RS) (w wr:World):Prop:=∃ n gl fl ss gA gm gc Lg fA fm fc Lf D d,z1Q B n gl fl ss=some (G,Fs,s')∧n+gl.length+fl.length=n0∧SrcU p tb pb gl fl ss w wr gA gm gc Lg fA fm fc Lf D d∧ss.rest.length≤s.rest.length
theorem z5n {B:RSL} {n:Nat} {gl G:Gls} {fl Fs:List Fn} {s s':RS} (h:z1Q B n gl fl s=some (G,Fs,s')):(s.bad=true∧G=gl∧Fs=fl∧s'=s)∨(s.bad=false∧(((hdR s).kind=0∧G=gl∧Fs=fl∧s'=s)∨((hdR s).kind≠0∧∃ m,n=m+1 ∧
  ((isR z42 s=true∧z1Q B m (gl++[(z0A (popR s)).1]) fl (z0A (popR s)).2=some (G,Fs,s'))∨(isR z42 s=false∧∃ f s1,z22 B (z0c z7E s)=some (f,s1)∧z1Q B m gl (fl++[{ f with line:=((hdR s).line:Int) }]) s1=some (G,Fs,s')))))):=by
 cases n with
 | zero=>cases h
 | succ m =>
  simp only [z1Q] at h
  cases hb:s.bad with
  | true =>
   simp only [hb,if_true] at h
   injection h with h
   injection h with e1 e2
   injection e2 with e2 e3
   exact .inl ⟨rfl,e1.symm,e2.symm,e3.symm⟩
  | false =>
   simp only [hb,Bool.false_eq_true,if_false] at h
   refine .inr ⟨rfl,?_⟩
   by_cases hk:(hdR s).kind=0
   ·rw [if_pos hk] at h
    injection h with h
    injection h with e1 e2
    injection e2 with e2 e3
    exact .inl ⟨hk,e1.symm,e2.symm,e3.symm⟩
   ·rw [if_neg hk] at h
    refine .inr ⟨hk,m,rfl,?_⟩
    cases hi:isR z42 s with
    | true=>rw [if_pos hi] at h; exact .inl ⟨rfl,h⟩
    | false =>
     rw [if_neg (by rw [hi]; decide)] at h
     refine .inr ⟨rfl,?_⟩
     cases hq:z22 B (z0c z7E s) with
     | none=>rw [hq] at h; cases h
     | some q=>rw [hq] at h; exact ⟨q.1,q.2,rfl,h⟩
end Go.Proofs.Ytleicdfkagejoaa
namespace Go.Proofs.Ytleicdfkagejoaa
open Go.RowKit
theorem z2L {P:Program} {w:World} {ops:Array Oper} {rest:List Oper} {d:Option Tmp} {ty:TypeId} {x y:Operand} {pos:String} {af:Array Edge} {gd:Option (Nat × Bool)} {a:Act} {Q:Exit→Act→World→Prop}
  (h:z08 (wpList P ops Q ({ dst:=d,op:=.store 30 x y,type:=ty,pos:=pos,after:=af,guard:=gd } :: rest) a w)):wpList P ops Q ({ dst:=d,op:=.store 30 x y,type:=ty,pos:=pos,after:=af,guard:=gd } :: rest) a w:=h
theorem zaV (F:Nat→Prop) (w:World) (x:ByteArray × Int):MGl F w x [.string x.1,.int .i64 x.2]:=rfl
theorem zdL (x:ByteArray × Int):∀ u∈[Value.string x.1,.int .i64 x.2],u.oneCell'=true:=by
 intro u hu
 simp at hu
 rcases hu with rfl | rfl <;> rfl
set_option maxRecDepth 100000 in
set_option maxHeartbeats 8000000 in
theorem zbh (B:RSL) (hbk:SubB 58 B) (p tb:Nat) (s s':RS) (G:Gls) (Fs:List Fn) (w:World) (h:RA w p tb s) (hP:z1Q B (s.rest.length+1) [] [] s=some (G,Fs,s')):Calls Try.prog 20 #[.pointer (some ⟨p,0,none⟩)] w (zdk p tb G Fs s s' w):=by
 have plt:=h.lt.1
 have tlt:=h.lt.2.1
 have hsm:=h.sm
 have HBK:=zhi hbk
 have HSM:=zhi hsm
 have hb0:=((Below.refl _ w).alloc (Nat.le_refl _) z18).alloc (by simp) z18
 have HR:Hid (zaw B p tb (w.heap.size+1) (s.rest.length+1) G Fs s s' w ((w.alloc z18).alloc z18)):=zhi ⟨_,[],[],s,none,0,0,[],none,0,0,[],0,0,hP,rfl,⟨h.below hb0,z02 hb0 _,z0Z w z18 z18,by omega,z0Y w z18 z18,rfl,rfl,GRow.nil,GRow.nil,fun b hb=>by simp [Value.ownBlock] at hb⟩,Nat.le_refl _⟩
 unfold z18 at HR
 clear hP h hb0 hsm hbk
 go_enter Try.func20,Try.ntmps20
 go_wp2_with fail
 obtain ⟨pb,hpb⟩:∃ pb,pb=w.heap.size+1:=⟨_,rfl⟩
 rw [← hpb] at HR ⊢
 obtain ⟨ws,hws⟩:∃ ws,ws=(w.alloc (.cells #[.slice none 0 0,.slice none 0 0] 30)).alloc (.cells #[.slice none 0 0,.slice none 0 0] 30):=⟨_,rfl⟩
 rw [← hws] at HR ⊢
 clear hws hpb
 go_loopw [4] (fun _ wr=>zaw B p tb pb (s.rest.length+1) G Fs s s' w wr) (fun _ wr=>(s.rest.length+1) - z4i wr pb)
 case atStart=>exact HR.out
 case round =>
  obtain ⟨n,gl,fl,ss,gA,gm,gc,Lg,fA,fm,fc,Lf,D,d,hsrc,hn,hU,hl⟩:=hrel
  have hgm:=hU.hgm
  have hfm:=hU.hfm
  subst hgm hfm
  clear HR
  have HU:=zhi hU
  have HLEN:=zhi hU.len
  have HC:=zhi (z5n hsrc)
  have HN:=zhi hn
  have Hl:=zhi hl
  have hlt:=hU.lt
  have hpl:=hU.plt
  have HNow:=zhi (z3w wr hU.ra)
  obtain ⟨a,c,N,hr⟩:=hU.ra
  have c2:=hr.cells.2.2.1
  clear hsrc hn hU hl hr
  cases hb:ss.bad with
  | true =>
   rw [hb] at c2
   rcases HC.out with ⟨_,rfl,rfl,rfl⟩ | ⟨h0,_⟩
   ·have H:=HU
    clear HC HNow hb HLEN HN
    go_upto_region 10 with fail
    clear c2
    have hrow:=H.out.row
    obtain ⟨b0,b1⟩:=cl2 hrow
    clear hrow
    go_wp2_with (with_reducible refine z2L ?_)
    refine z08.of (z00 _ rfl _ _ _ rfl w.heap.size _ rfl (by rfl) _ _ H.out.z (by kernel_rfl) (by rfl) (by simp [Value.oneCell']) ?_)
    intro w9 hrow9 hg9
    obtain ⟨j0,j1⟩:=cl2 hrow9
    have HH:=zhi (z7m (s:=s) H.out Hl.out plt tlt hg9)
    clear hrow9 hg9 b0 b1
    go_wp2_with fail
    exact bodyPost_ret (by simp [results,Try.results20,go_sem,j0,j1]) rfl HH.out
   ·rw [hb] at h0; cases h0
  | false =>
   rw [hb] at c2
   rcases HC.out with ⟨h0,_⟩ | ⟨_,hc⟩
   ·rw [hb] at h0; cases h0
   ·have hfd0:∀ w:World,(Instr.field 98 (.agg #[.int .i64 ((hdR ss).kind:Int),.int .i64 ((hdR ss).line:Int),.int .i64 ((hdR ss).value:Int),.string (nmB (hdR ss).text)]) 0).run Try.prog w=.ok (.int .i64 ((hdR ss).kind:Int)) w:=fun _=>by kernel_rfl
    have hfd1:∀ w:World,(Instr.field 98 (.agg #[.int .i64 ((hdR ss).kind:Int),.int .i64 ((hdR ss).line:Int),.int .i64 ((hdR ss).value:Int),.string (nmB (hdR ss).text)]) 1).run Try.prog w=.ok (.int .i64 ((hdR ss).line:Int)) w:=fun _=>by kernel_rfl
    clear HC hb
    go_wp2_with fail
    refine HNow.out.mono ?_
    rintro e w2 ⟨rfl,hb2⟩
    unfold z1C
    have H2:=zhi (HU.out.step plt (z02 hb2 _) (HU.out.ra.below hb2))
    have hpl2:=Nat.lt_of_lt_of_le hpl hb2.size
    clear hb2 HNow HU c2
    rcases hc with ⟨hk,rfl,rfl,rfl⟩ | ⟨hk,m,rfl,hc⟩
    ·have hk':(((hdR s').kind:Int) != 0)=false:=by simp [hk]
     have H:=H2
     clear hk HLEN HN
     go_upto_region 10 with fail
     clear hk' hfd0 hfd1
     have hrow:=H.out.row
     obtain ⟨b0,b1⟩:=cl2 hrow
     clear hrow
     go_wp2_with (with_reducible refine z2L ?_)
     refine z08.of (z00 _ rfl _ _ _ rfl w.heap.size _ rfl (by rfl) _ _ H.out.z (by kernel_rfl) (by rfl) (by simp [Value.oneCell']) ?_)
     intro w9 hrow9 hg9
     obtain ⟨j0,j1⟩:=cl2 hrow9
     have HH:=zhi (z7m (s:=s) H.out Hl.out plt tlt hg9)
     clear hrow9 hg9 b0 b1
     go_wp2_with fail
     exact bodyPost_ret (by simp [results,Try.results20,go_sem,j0,j1]) rfl HH.out
    ·have hk':(((hdR ss).kind:Int) != 0)=true:=by simp; omega
     have HA:=zhi (z0F z42 w2 H2.out.ra)
     clear hk
     go_wp2_with fail
     refine HA.out.mono ?_
     rintro e w3 ⟨rfl,hp3,hg3⟩
     have hpl3:=Nat.lt_of_lt_of_le hpl2 hg3.size
     clear hk' hfd0
     rcases hc with ⟨hv,hnext⟩ | ⟨hv,f,s1,hfn,hnext⟩
     ·rw [z0D hv] at hp3
      have H:=zhi (H2.out.step plt hg3 hp3)
      have HNX:=zhi hnext
      have HGl:=zhi (z8N p tb (popR ss) w3.drew H.out.ra.drew)
      have hr0:=H.out.row
      have b0:=cell_of_row _ _ 0 _ _ _ hr0
      have hxl:gl.length≤1000000:=by have:=HN.out; have:=HSM.out; omega
      obtain ⟨gy,hgy⟩:∃ gy,gy=z0A (popR ss):=⟨_,rfl⟩
      rw [← hgy] at HGl HNX
      have HGY:=zhi hgy
      clear hp3 hg3 HA H2 hnext hr0 hgy
      go_upto_region 4 with fail
      go_region_law
       (first
        | ((with_reducible refine z2k (k:=2) (T:=76) (S:=27) (V:=MGl) w14 rfl (.tmp 20) (.tmp 23) rfl z13 (.agg #[.string ⟨#[]⟩,.int .i64 0]) 24 Try.underlying27 zcC rfl (by decide) (by decide) (pb+1) (.slice gA gl.length gc) gl Lg gy.1 [.string gy.1.1,.int .i64 gy.1.2] (fun _=>False) rfl rfl HGS6.out hxl (by omega) rfl (zdL _) (zaV _ _ _) (fun b hb=>hb.elim) ?_); intro g8 cap8 w15 hgs8 hg8 hat8; have hb8:=(z3W HGS6.out.own hg8 (by omega)); have hrow8:=((hb8.block pb (by omega)).trans HRow6.out); have q0:=(cell_of_row _ _ 0 _ _ _ hrow8); have g0:=(z09 hrow8 0); have HGS8:=zhi hgs8; have HG8:=zhi hg8; have HAT8:=zhi hat8; clear hgs8 hg8 hb8 hrow8 hat8)
        | (go_simp; go_at_call 37; (with_reducible refine HGl.out.mono ?_); rintro e w14 ⟨rfl,hp6,hg6,hl6⟩; dsimp only; have hg6':=(z0K hg6); have hsw14:=hg6'.size; have hsl14:pb<w14.heap.size:=Nat.lt_of_lt_of_le hpl3 hg6'.size; have H14:=zhi (H.out.step plt hg6' hp6); have hrow6:=H14.out.row; have d0:=(cell_of_row _ _ 0 _ _ _ hrow6); have HRow6:=zhi hrow6; have HGS6:=zhi H14.out.gs; have HL6:=zhi hl6; clear hg6 hg6' hp6 hrow6 hl6))
      all_goals
       have hu15:=H14.out.pushG plt tlt HGS8.out HG8.out HAT8.out
       have HE:Hid (zaw B p tb pb (s.rest.length+1) G Fs s s' w (w15.setCell ⟨pb,0,none⟩ (.slice (some ⟨g8,0,none⟩) (gl.length+1) cap8))∧(s.rest.length+1) - z4i (w15.setCell ⟨pb,0,none⟩ (.slice (some ⟨g8,0,none⟩) (gl.length+1) cap8)) pb<(s.rest.length+1) - z4i wr pb):=zhi ⟨⟨m,gl++[gy.1],fl,gy.2,_,_,_,_,_,_,_,_,_,_,HNX.out,by have:=HN.out; simp; omega,hu15,by have h1:=HL6.out; rw [z0j] at h1; have:=Hl.out; omega⟩,by rw [hu15.len,HLEN.out]; have:=HN.out; simp; omega⟩
       clear q0 g0 d0 b0 hu15
       go_wp2_with fail
       exact HE.out
     ·rw [z0T hv] at hp3
      have H3:=zhi (H2.out.step plt hg3 hp3)
      have HNow3:=zhi (z3w w3 H3.out.ra)
      have HNX:=zhi hnext
      have HFN:=zhi hfn
      clear hp3 hg3 HA H2 hnext hfn
      go_wp2_with fail
      refine HNow3.out.mono ?_
      rintro e w4 ⟨rfl,hb4⟩
      unfold z1C
      have H4:=zhi (H3.out.step plt (z02 hb4 _) (H3.out.ra.below hb4))
      have hpl4:=Nat.lt_of_lt_of_le hpl3 hb4.size
      have HX4:=zhi (z0r z7E w4 H4.out.ra)
      clear hb4 HNow3 H3
      go_wp2_with fail
      refine HX4.out.mono ?_
      rintro e w5 ⟨⟨v5,rfl⟩,hp5,hg5⟩
      have H5:=zhi (H4.out.step plt hg5 hp5)
      have hpl5:=Nat.lt_of_lt_of_le hpl4 hg5.size
      have HF5:=zhi (z7F B HBK.out p tb (z0c z7E ss) s1 f w5 H5.out.ra HFN.out)
      clear hp5 hg5 HX4 H4 hfd1
      go_wp2_with fail
      refine HF5.out.mono ?_
      rintro e w6 ⟨Df,df,A6,m6,c6,bA6,bm6,bc6,rfl,hm6,hbm6,hps6,hbd6,hp6,hg6,hl6⟩
      have hpl6:=Nat.lt_of_lt_of_le hpl5 hg6.size
      have hsz6:=hg6.size
      have H6:=zhi (H5.out.step plt hg6 hp6)
      have HFV:=zhi (zaH (X:=obk (.slice gA gl.length gc)) (ln:=((hdR ss).line:Int)) (D:=D) (d:=d) hm6 hbm6 hps6 hbd6 (zdK (fun b hb=>(H5.out.gs.own.lt b hb).2) (by omega)))
      have HL6:=zhi hl6
      have hfs6:=H6.out.fs
      have HFS6:=zhi (hfs6.map (V':=MFnX (D+Df) (d+df+1) (obk (.slice gA gl.length gc))) (fun F w x cs h=>by
       have:=MFn.up h Df df
       have e:d+(df+1)=d+df+1:=by omega
       rw [e] at this
       exact this))
      have hxl:fl.length≤1000000:=by have:=HN.out; have:=HSM.out; omega
      clear hm6 hbm6 hps6 hbd6 hp6 hg6 hl6 HF5 hfs6
      have HOG:=zhi (fun b hb=>(H5.out.gs.own.lt b hb).2)
      have HOF:=zhi (fun b hb=>(H5.out.fs.own.lt b hb).2)
      have hrow6:=H6.out.row
      have b1:=cell_of_row _ _ 1 _ _ _ hrow6
      clear hrow6
      go_wp2_with (at_builtin; refine z08.out ?_)
      have hba:=(Below.refl _ w6).alloc (Nat.le_refl _) (.cells #[.string f.name,.int .i64 ((hdR ss).line:Int),.slice A6 m6 c6,.slice bA6 bm6 bc6] 73)
      have HFSa:=zhi (HFS6.out.grown (z1b _ _ _) (z02 hba (some p)) (by omega))
      have HFVa:=zhi (z1b _ _ _ _ (fun q=>w5.heap.size≤q∧q<w6.heap.size) _ _ _ _ (fun _ h=>h) (fun b hb=>hba.block b hb.2) HFV.out)
      have HBA:=zhi hba
      refine z08.of (z3K (k:=4) (T:=73) (S:=28) (V:=MFnX (D+Df) (d+df+1) (obk (.slice gA gl.length gc))) (w6.alloc (.cells #[.string f.name,.int .i64 ((hdR ss).line:Int),.slice A6 m6 c6,.slice bA6 bm6 bc6] 73)) rfl (.tmp 36) (.tmp 38) rfl (z1b _ _ _) _ _ Try.underlying28 zcB rfl (by decide) (by decide) (pb+1) (.slice fA fl.length fc) fl Lf { f with line:=((hdR ss).line:Int) } [.string f.name,.int .i64 ((hdR ss).line:Int),.slice A6 m6 c6,.slice bA6 bm6 bc6] (fun q=>w5.heap.size≤q∧q<w6.heap.size) rfl (by simp [Act.eval]) HFSa.out hxl (by simp; omega) rfl (by simp [Value.oneCell']) HFVa.out (fun b hb=>⟨by omega,by simp; omega,fun e=>by have:=HOF.out b e; omega⟩) ?_)
      intro g8 cap8 wz hfs8 hg8 hat8
      have hu:=H6.out.pushF plt tlt HBA.out hfs8 hg8 hat8
      have hbz:Below (pb+1) w6 wz:=(HBA.out.mono (by omega)).trans (z07 hg8 (fun k hk=>(HFSa.out.own.lt k hk).1) (by simp; omega))
      have hrowz:=(hbz.block pb (by omega)).trans H6.out.row
      have q1:=cell_of_row _ _ 1 _ _ _ hrowz
      have g1:=z09 hrowz 1
      have hel:=z0h z7E ss
      have HE:Hid (zaw B p tb pb (s.rest.length+1) G Fs s s' w (wz.setCell ⟨pb,1,none⟩ (.slice (some ⟨g8,0,none⟩) (fl.length+1) cap8))∧(s.rest.length+1) - z4i (wz.setCell ⟨pb,1,none⟩ (.slice (some ⟨g8,0,none⟩) (fl.length+1) cap8)) pb<(s.rest.length+1) - z4i wr pb):=zhi ⟨⟨m,gl,fl++[{ f with line:=((hdR ss).line:Int) }],s1,_,_,_,_,_,_,_,_,_,_,HNX.out,by have:=HN.out; simp; omega,hu,by have:=HL6.out; have:=Hl.out; omega⟩,by rw [hu.len,HLEN.out]; have:=HN.out; simp; omega⟩
      clear hba hfs8 hg8 hat8 hu hbz hrowz hel b1 HFSa HFVa HBA HFS6 HFV H5 H6
      go_wp2_with fail
      exact HE.out
end Go.Proofs.Ytleicdfkagejoaa
namespace Go.Proofs.Ytleicdfkagejoaa
open Go.RowKit
def z7a (d:Nat) (l:z0g):Option (Except (Nat × Nat) (Gls × List Fn)) :=
 match z2Z l with
 | .error q=>some (.error q)
 | .ok ts =>
  match z1Q (z3z (z5Y d)) (ts.length+1) [] [] ⟨ts,false,0⟩ with
  | none=>none
  | some (gl,fl,s)=>if (z33 s).2=0 then some (.ok (gl,fl)) else some (.error (z33 s))
def z89 (x:Except (Nat × Nat) (Gls × List Fn)) (w:World) (e:Ending) (w':World):Prop :=
 match x with
 | .error (n,c)=>e=.returned (.tuple #[.agg #[.slice none 0 0,.slice none 0 0],.int .i64 (n:Int),.int .i64 (c:Int)])∧Below w.heap.size w w'
 | .ok (gl,fl)=>∃ D d gA gc fA fc,e=.returned (.tuple #[.agg #[.slice gA gl.length gc,.slice fA fl.length fc],.int .i64 0,.int .i64 0]) ∧
  RowG 2 MGl (fun q=>w.heap.size≤q∧q<w'.heap.size) w' gl gA gc∧RowG 4 (MFn D d) (fun q=>w.heap.size≤q∧q<w'.heap.size) w' fl fA fc∧Below w.heap.size w w'
set_option maxRecDepth 100000 in
set_option maxHeartbeats 4000000 in
theorem zcM (d:Nat) (str:ByteArray) (x:Except (Nat × Nat) (Gls × List Fn)) (w:World) (hs:str.size≤140737488355328) (hP:z7a d str.data.toList=some x):Calls Try.prog 11 #[.string str] w (z89 x w):=by
 have HS:=zhi (z9Q str (w.alloc z18) hs)
 have hb0:=(Below.refl _ w).alloc (Nat.le_refl _) z18
 have HB0:=zhi hb0
 have HZ0:=zhi (heap_alloc_new w z18)
 unfold z7a at hP
 cases hsc:z2Z str.data.toList with
 | error q =>
  obtain ⟨n,cd⟩:=q
  rw [hsc] at hP HS
  injection hP with hP
  subst hP
  have hcd:(cd=5∨cd=6):=by
   unfold z2Z at hsc
   split at hsc
   ·injection hsc with hsc
    injection hsc with _ hsc
    exact .inl hsc.symm
   ·split at hsc
    ·injection hsc with hsc
     injection hsc with _ hsc
     exact .inr hsc.symm
    ·cases hsc
  have hcd':((cd:Int) != 0)=true:=by simp; omega
  unfold z18 at HS HB0 HZ0
  clear hb0 hsc hcd hs
  go_enter Try.func11,Try.ntmps11
  go_wp2_with fail
  refine HS.out.mono ?_
  rintro e w1 ⟨rfl,hb1⟩
  have HB1:=zhi (HB0.out.trans (hb1.mono (by simp)))
  have HZ1:=zhi ((hb1.block _ (by simp)).trans HZ0.out)
  clear hb1 HS
  go_wp2_with (with_reducible refine z2L ?_)
  refine z08.of (z00 _ rfl _ _ _ rfl w.heap.size _ rfl (by rfl) _ _ HZ1.out (by kernel_rfl) (by rfl) (by simp [Value.oneCell']) ?_)
  intro w9 hrow9 hg9
  obtain ⟨j0,j1⟩:=cl2 hrow9
  have HE:=zhi (HB1.out.trans (z07 hg9 (fun k hk=>by injection hk with hk; omega) (by have:=HB1.out.size; omega)))
  clear hrow9 hg9
  go_wp2_with fail
  exact bodyPost_ret (by simp [results,Try.results11,go_sem,j0,j1]) rfl ⟨rfl,HE.out⟩
 | ok ts =>
  rw [hsc] at hP HS
  dsimp only at hP
  obtain ⟨hwf,hlen⟩:=zbe hsc
  cases hsr:z1Q (z3z (z5Y d)) (ts.length+1) [] [] ⟨ts,false,0⟩ with
  | none=>rw [hsr] at hP; cases hP
  | some q =>
   obtain ⟨gl,fl,s'⟩:=q
   rw [hsr] at hP
   dsimp only at hP
   have HSR:=zhi hsr
   have HWF:=zhi hwf
   have HLen:=zhi hlen
   have HPP:=zhi hP
   unfold z18 at HS HB0 HZ0
   clear hb0 hsc hs hsr hwf hlen hP
   go_enter Try.func11,Try.ntmps11
   go_wp2_with fail
   refine HS.out.mono ?_
   rintro e w1 ⟨v,rfl,hown,hb1⟩
   obtain ⟨tb,tc,rfl,htb,htl,hra⟩:=zb4 hown HWF.out HLen.out
   have hsz1:w.heap.size+1≤w1.heap.size:=by have:=hb1.size; simpa using this
   have htb':w.heap.size+1≤tb:=by simpa using htb
   have hba:=(Below.refl _ w1).alloc (Nat.le_refl _) (.cells #[.slice (some ⟨tb,0,none⟩) ts.length tc,.int .i64 0,.bool false,.int .i64 0] 67)
   have HB1:=zhi ((HB0.out.trans (hb1.mono (by simp))).trans (hba.mono (by omega)))
   have HZ1:=zhi ((hba.block _ (by omega)).trans ((hb1.block _ (by simp)).trans HZ0.out))
   have HSC:=zhi (zbh (z3z (z5Y d)) (z7v d) w1.heap.size tb ⟨ts,false,0⟩ s' gl fl _ (hra 67) HSR.out)
   have hszp:w.heap.size<(w1.alloc (.cells #[.slice (some ⟨tb,0,none⟩) ts.length tc,.int .i64 0,.bool false,.int .i64 0] 67)).heap.size:=by simp; omega
   clear hown hb1 hra hba HS HZ0 HB0
   go_wp2_with fail
   refine HSC.out.mono ?_
   rintro e w2 ⟨D,dd,gA,gm,gc,fA,fm,fc,rfl,hgm,hfm,hgs,hfs,hp2,hg2,hl2⟩
   subst hgm hfm
   have HZ2:=zhi (z04 hg2 (by omega) HZ1.out)
   have HG2:=zhi ((z02 HB1.out (some w1.heap.size)).trans hg2)
   have HGS:=zhi hgs
   have HFS:=zhi hfs
   have HP2:=zhi hp2
   have HB2:=zhi (show Below w.heap.size w w2 from HB1.out.trans (z07 hg2 (fun k hk=>by injection hk with hk; omega) (by omega)))
   have hlw2:w.heap.size<w2.heap.size:=(Array.getElem?_eq_some_iff.1 HZ2.out).1
   have hszq:=hg2.size
   clear hgs hfs hp2 hg2 hl2 HSC HZ1 HB1
   go_wp2_with (with_reducible refine z2L ?_)
   refine z08.of (z00 _ rfl _ _ _ rfl w.heap.size _ rfl (by rfl) _ _ HZ2.out (by kernel_rfl) (by rfl) (by simp [Value.oneCell']) ?_)
   intro w3 hrow3 hg3
   dsimp only [Act.put]
   have hb3:Below w.heap.size w w3:=HB2.out.trans (z07 hg3 (fun k hk=>by injection hk with hk; omega) (by omega))
   have HD3:=zhi (zdr w3 (HP2.out.other hg3 (by omega) (by omega)))
   have HGS3:=zhi (HGS.out.keep (G:=fun q=>w.heap.size+1≤q∧q<w3.heap.size) z13 (fun q hq=>⟨by omega,Nat.lt_of_lt_of_le hq.2 hg3.size⟩) (fun q hq=>hg3.block q hq.2 (fun e=>by injection e with e; omega)))
   have HFS3:=zhi (HFS.out.keep (G:=fun q=>w.heap.size+1≤q∧q<w3.heap.size) (z1M D dd) (fun q hq=>⟨by omega,Nat.lt_of_lt_of_le hq.2 hg3.size⟩) (fun q hq=>hg3.block q hq.2 (fun e=>by injection e with e; omega)))
   have HB3:=zhi hb3
   have HRow3:=zhi hrow3
   clear hrow3 hg3 hb3 HGS HFS HB2 HZ2 HG2
   go_wp2_with fail
   refine HD3.out.mono ?_
   rintro e w4 ⟨rfl,hb4⟩
   have hrow4:=(hb4.block _ (Array.getElem?_eq_some_iff.1 HRow3.out).1).trans HRow3.out
   have HB4:=zhi (z0b HB3.out hb4)
   have HGS4:=zhi (HGS3.out.keep (G:=fun q=>w.heap.size+1≤q∧q<w4.heap.size) z13 (fun q hq=>⟨hq.1,Nat.lt_of_lt_of_le hq.2 hb4.size⟩) (fun q hq=>hb4.block q hq.2))
   have HFS4:=zhi (HFS3.out.keep (G:=fun q=>w.heap.size+1≤q∧q<w4.heap.size) (z1M D dd) (fun q hq=>⟨hq.1,Nat.lt_of_lt_of_le hq.2 hb4.size⟩) (fun q hq=>hb4.block q hq.2))
   have HRow4:=zhi hrow4
   obtain ⟨c0,c1⟩:=cl2 hrow4
   have hs4:=HB4.out.size
   clear hrow4 hb4 HD3 HGS3 HFS3 HB3 HRow3
   generalize z33 s'=dq at HPP
   obtain ⟨dn,dc⟩:=dq
   have hPP:=HPP.out
   dsimp only at hPP
   by_cases hdc:dc=0
   ·rw [if_pos hdc] at hPP
    injection hPP with hPP
    subst hPP hdc
    clear HPP
    go_wp2_with (with_reducible refine z2L ?_)
    refine z08.of (z00 _ rfl _ _ _ rfl w.heap.size _ rfl (by rfl) _ _ HRow4.out (by kernel_rfl) (by rfl) (by simp [Value.oneCell']) ?_)
    intro w9 hrow9 hg9
    obtain ⟨j0,j1⟩:=cl2 hrow9
    have HE:Hid (z89 (.ok (gl,fl)) w (.returned (.tuple #[.agg #[.slice gA gl.length gc,.slice fA fl.length fc],.int .i64 0,.int .i64 0])) w9):=zhi ⟨D,dd,gA,gc,fA,fc,rfl,HGS4.out.keep z13 (fun q hq=>⟨by omega,Nat.lt_of_lt_of_le hq.2 hg9.size⟩) (fun q hq=>hg9.block q hq.2 (fun e=>by injection e with e; omega)),HFS4.out.keep (z1M D dd) (fun q hq=>⟨by omega,Nat.lt_of_lt_of_le hq.2 hg9.size⟩) (fun q hq=>hg9.block q hq.2 (fun e=>by injection e with e; omega)),HB4.out.trans (z07 hg9 (fun k hk=>by injection hk with hk; omega) (by omega))⟩
    clear hrow9 hg9 c0 c1
    go_wp2_with fail
    exact bodyPost_ret (by simp [results,Try.results11,go_sem,j0,j1]) rfl HE.out
   ·rw [if_neg hdc] at hPP
    injection hPP with hPP
    subst hPP
    have hdc':((dc:Int) != 0)=true:=by simp; omega
    clear HPP hdc
    go_wp2_with (with_reducible refine z2L ?_)
    refine z08.of (z00 _ rfl _ _ _ rfl w.heap.size _ rfl (by rfl) _ _ HRow4.out (by kernel_rfl) (by rfl) (by simp [Value.oneCell']) ?_)
    intro w9 hrow9 hg9
    obtain ⟨j0,j1⟩:=cl2 hrow9
    have HE:Hid (z89 (.error (dn,dc)) w (.returned (.tuple #[.agg #[.slice none 0 0,.slice none 0 0],.int .i64 (dn:Int),.int .i64 (dc:Int)])) w9):=zhi ⟨rfl,HB4.out.trans (z07 hg9 (fun k hk=>by injection hk with hk; omega) (by omega))⟩
    clear hrow9 hg9 c0 c1
    go_wp2_with fail
    exact bodyPost_ret (by simp [results,Try.results11,go_sem,j0,j1]) rfl HE.out
end Go.Proofs.Ytleicdfkagejoaa
