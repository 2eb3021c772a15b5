/-
  Mk: RqSrcA, RqParse. Part of the proof. No condition.
-/
import Derived.Test.YtdflbhofmmlpgaaGreatMj
set_option maxRecDepth 100000
set_option maxHeartbeats 8000000
namespace Go.Proofs.YtdflbhofmmlpgaaGreat
open Go.RowKit
theorem z7F:SubB 63 (z4u (z6O z6h)):=zcu _ (zej z6h zcC)
def MStr:z1H Zb:=fun _ _ x cs=>cs=[.string x]
theorem z1x:MStr.Keeps:=fun _ _ _ _ _ _ _ _ h=>h
def MGl:z1H (Zb × Int):=fun _ _ x cs=>cs=[.string x.1,.int .i64 x.2]
theorem z1B:MGl.Keeps:=fun _ _ _ _ _ _ _ _ h=>h
def z4m:Obj:=.cells #[.string { data:=#[] },.int .i64 0,.slice none 0 0,.slice none 0 0] 83
structure FnU (p tb fb:Nat) (nm:Zb) (ps:List Zb) (s:RS) (w wr:World) (A:Option Addr) (m c:Nat) (L:List Value):Prop where
 ra:RA wr p tb s
 gr:w.grownBy wr (some p)
 z:wr.heap[w.heap.size]?=some z4m
 lt:w.heap.size<fb
 row:wr.heap[fb]?=some (.cells #[.string nm,.int .i64 0,.slice A m c,.slice none 0 0] 83 (0,0))
 hm:m=ps.length
 ps:GRow 1 9 MStr (fb+1) wr (.slice A m c) ps L
section
variable {p tb fb:Nat} {nm:Zb} {ps:List Zb} {s s':RS} {w wr w':World} {A:Option Addr} {m c:Nat} {L:List Value}
theorem FnU.flt (h:FnU p tb fb nm ps s w wr A m c L):fb<wr.heap.size:=(q_0.1 h.row).1
theorem FnU.step (h:FnU p tb fb nm ps s w wr A m c L) (hp:p<w.heap.size) (hg:wr.grownBy w' (some p)) (ha:RA w' p tb s'):FnU p tb fb nm ps s' w w' A m c L:=by
 have hlt:=h.lt;exact ⟨ha,h.gr.trans hg,z04 hg (by omega) h.z,h.lt,z04 hg (by omega) h.row,h.hm,h.ps.grown z1x hg (by omega)⟩
theorem FnU.push {y:Zb} {g cap:Nat} {w2:World} {cs:List Value} (h:FnU p tb fb nm ps s w wr A m c L) (hp:p<w.heap.size) (ht:tb<w.heap.size) (h2:GRow 1 9 MStr (fb+1) w2 (.slice (some ⟨g,0,none⟩) (ps.length+1) cap) (ps++[y]) (L++cs)) (hb:Below (fb+1) wr w2) :
  FnU p tb fb nm (ps++[y]) s w (w2.setCell ⟨fb,2,none⟩ (.slice (some ⟨g,0,none⟩) (ps.length+1) cap)) (some ⟨g,0,none⟩) (ps.length+1) cap (L++cs):=by
 have hlt:=h.lt;have hg:w2.grownBy (w2.setCell ⟨fb,2,none⟩ (.slice (some ⟨g,0,none⟩) (ps.length+1) cap)) (some fb):=z03 w2 ⟨fb,2,none⟩ _;have hr2:=(hb.block fb (by omega)).trans h.row;exact ⟨(h.ra.low hb (by omega) (by omega)).other hg (by omega) (by omega),z0r (z1N h.gr hb (by omega)) hg (by omega),z04 hg (by omega) ((hb.block _ (by omega)).trans h.z),h.lt,z0a (i:=2) (.slice (some ⟨g,0,none⟩) (ps.length+1) cap) hr2,by simp,h2.grown z1x hg (by omega)⟩
end
def FnRG (p tb:Nat) (f:Fn) (s s':RS) (w:World) (e:Ending) (w':World):Prop:=∃ D d A m c bA bm bc,e=.returned (.agg #[.string f.name,.int .i64 0,.slice A m c,.slice bA bm bc])/\m=f.params.length/\bm=f.body.length /\
 RowG 1 MStr (fun q=>w.heap.size<=q/\q<w'.heap.size) w' f.params A c/\RowS (fun q=>w.heap.size<=q/\q<w'.heap.size) w' D d f.body bA bc/\RA w' p tb s'/\w.grownBy w' (some p)/\s'.rest.length<=s.rest.length
theorem z6B {n:Nat} {xs ps:List Zb} {s s':RS} (h:z2i n xs s=some (ps,s')) (hs:isR [44] s=true):∃ m,n=m+1/\z2i m (xs++[nmB (z0n 1 (popR s)).1.text]) (z0n 1 (popR s)).2=some (ps,s'):=by
 cases n with
 | zero=>cases h
 | succ m=>simp only [z2i,hs,if_true] at h; exact ⟨m,rfl,h⟩
theorem z7X {n:Nat} {xs ps:List Zb} {s s':RS} (h:z2i n xs s=some (ps,s')) (hs:isR [44] s=false):ps=xs/\s'=z0h [41] s:=by
 cases n with
 | zero=>cases h
 | succ m =>
  simp only [z2i,hs] at h;injection h with h;injection h with e1 e2;exact ⟨e1.symm,e2.symm⟩
theorem z6A:∀ (n:Nat) {xs ps:List Zb} {s s':RS},z2i n xs s=some (ps,s')->xs.length<=ps.length:=by
 intro n
 induction n with
 | zero=>intro xs ps s s' h; cases h
 | succ n ih =>
  intro xs ps s s' h;cases hs:isR [44] s with
  | true =>
   obtain ⟨m,e,h1⟩:=z6B h hs;have:m=n:=by omega
   subst this;have:=ih h1;simp at this;omega
  | false =>
   obtain ⟨rfl,_⟩:=z7X h hs;exact q_2 _
theorem z4q {B:RSL} {s s':RS} {f:Fn} (h:z26 B s=some (f,s')):∃ ps s1 b,z48 (z0h [40] (z0n 1 s).2)=some (ps,s1)/\B s1=some (b,s')/\f=⟨nmB (z0n 1 s).1.text,0,ps,b⟩:=by
 unfold z26 at h;cases h1:z48 (z0h [40] (z0n 1 s).2) with
 | none=>rw [h1] at h; cases h
 | some q =>
  obtain ⟨ps,s1⟩:=q;rw [h1] at h;dsimp only at h;cases h2:B s1 with
  | none=>rw [h2] at h; cases h
  | some q2 =>
   obtain ⟨b,s2⟩:=q2;rw [h2] at h;injection h with h;injection h with e1 e2;subst e2;exact ⟨ps,s1,b,rfl,h2,e1.symm⟩
theorem z5h {s s1:RS} {ps:List Zb} (h:z48 s=some (ps,s1)):(isR [41] s=true/\ps=[]/\s1=popR s)\/(isR [41] s=false/\z2i ((z0n 1 s).2.rest.length+1) [nmB (z0n 1 s).1.text] (z0n 1 s).2=some (ps,s1)):=by
 unfold z48 at h;cases hi:isR [41] s with
 | true =>
  rw [if_pos hi] at h;injection h with h;injection h with e1 e2;exact .inl ⟨rfl,e1.symm,e2.symm⟩
 | false =>
  rw [if_neg (by rw [hi]; decide)] at h;exact .inr ⟨rfl,h⟩
theorem zb5 {P:Program} {w:World} {ops:Array Oper} {rest:List Oper} {d:Option Tmp} {ty:TypeId} {x y:Operand} {pos:String} {af:Array Edge} {gd:Option (Nat × Bool)} {a:Act} {Q:Exit->Act->World->Prop}
  (h:z07 (wpList P ops Q ({ dst:=d,op:=.store 83 x y,type:=ty,pos:=pos,after:=af,guard:=gd } :: rest) a w)):wpList P ops Q ({ dst:=d,op:=.store 83 x y,type:=ty,pos:=pos,after:=af,guard:=gd } :: rest) a w:=h
theorem zcF {p tb fb:Nat} {nm:Zb} {ps:List Zb} {s:RS} {w wr:World} {A:Option Addr} {m c:Nat} {L:List Value} (h:FnU p tb fb nm ps s w wr A m c L) {v:Value}:(wr.setCell ⟨fb,3,none⟩ v).heap[w.heap.size]?=some (.cells #[.string { data:=#[] },.int .i64 0,.slice none 0 0,.slice none 0 0] 83):=by
 have hlt:=h.lt;exact z04 (z03 wr ⟨fb,3,none⟩ v) (by show w.heap.size≠fb; omega) h.z
theorem zcE {p tb fb Db db mb cb n0:Nat} {nm:Zb} {ps:List Zb} {bd:List St} {s s':RS} {w wb w9:World} {A Ab:Option Addr} {m c:Nat} {L:List Value} (h:FnU p tb fb nm ps s' w wb A m c L) (hmb:mb=bd.length) (hrb:RowS (fun q=>n0<=q/\q<wb.heap.size) wb Db db bd Ab cb) (hn0:fb<n0) (hl:s'.rest.length<=s.rest.length) (hp:p<w.heap.size) (ht:tb<w.heap.size)
  (hg9:(wb.setCell ⟨fb,3,none⟩ (.slice Ab mb cb)).grownBy w9 (some w.heap.size)):FnRG p tb ⟨nm,0,ps,bd⟩ s s' w (.returned (.agg #[.string nm,.int .i64 0,.slice A m c,.slice Ab mb cb])) w9:=by
 have hlt:=h.lt;have hg:wb.grownBy (wb.setCell ⟨fb,3,none⟩ (.slice Ab mb cb)) (some fb):=z03 wb ⟨fb,3,none⟩ _;have hs:=hg.size;have hs9:=hg9.size;have hps:=((h.ps.grown z1x hg (by omega)).grown z1x hg9 (by omega)).row z1x;have hk:∀ q,n0<=q->q<wb.heap.size->w9.heap[q]?=wb.heap[q]?:=fun q h1 h2=>(hg9.block q (q_1 h2 hs) (fun e=>by injection e with e; omega)).trans (hg.block q h2 (fun e=>by injection e with e; omega))
 have hra:=(h.ra.other hg (by omega) (by omega)).other hg9 (by omega) (by omega);exact ⟨Db,db,A,m,c,Ab,mb,cb,rfl,h.hm,hmb,⟨hps.2.1,fun i x hi=>by
  obtain ⟨g,cs,h1,h2,h3,h4,h5⟩:=hps.2.2 i x hi;exact ⟨g,cs,h1,⟨by omega,h2.2⟩,h3,h4,h5⟩⟩,RowS.keep (fun q hq=>⟨by omega,by omega⟩) (fun q hq=>hk q hq.1 hq.2) hrb,hra,z0r (z0r h.gr hg (by omega)) hg9 (q_2 _),hl⟩
theorem z7P (B:RSL) (hbk:SubB 63 B) (p tb:Nat) (s s':RS) (f:Fn) (w:World) (h:RA w p tb s) (hP:z26 B s=some (f,s')) (hfp:f.params=[]):Calls Tryz.prog 43 #[.pointer (some ⟨p,0,none⟩)] w (FnRG p tb f s s' w):=by
 obtain ⟨ps,s1,bd,hpar,hb,rfl⟩:=z4q hP;have HPC:=zhi (z5h hpar);have HFP:Hid (ps=[]):=zhi hfp;clear hfp;have HQB:=zhi hb;have plt:=h.lt.1;have tlt:=h.lt.2.1;have hsm:=h.sm;have HK:=zhi (show Calls Tryz.prog 62 #[.pointer (some ⟨p,0,none⟩),.int .i64 1] (w.alloc z4m) (fun e w'=>e=.returned (.agg #[.int .i64 ((z0n 1 s).1.kind:Int),.int .i64 ((z0n 1 s).1.line:Int),.int .i64 ((z0n 1 s).1.value:Int),.string (nmB (z0n 1 s).1.text)])/\RA w' p tb (z0n 1 s).2/\World.grownBy (w.alloc z4m) w' (some p)) from zbV 1 (w.alloc z4m) (h.alloc _) (by omega));have hfd:∀ w:World,(Instr.field 110 (.agg #[.int .i64 ((z0n 1 s).1.kind:Int),.int .i64 ((z0n 1 s).1.line:Int),.int .i64 ((z0n 1 s).1.value:Int),.string (nmB (z0n 1 s).1.text)]) 3).run Tryz.prog w=.ok (.string (nmB (z0n 1 s).1.text)) w:=fun _=>by kernel_rfl
 have hb0:=(q_i _ w).alloc (q_2 _) z4m;have HB0:=zhi hb0;have HSM:=zhi hsm;have HBK:=zhi hbk;unfold z4m at HK;clear hP hpar hb h hb0 hsm hbk;go_enter Tryz.func43,Tryz.ntmps43;go_wp2_with fail;refine HK.out.mono ?_;rintro e w1 ⟨rfl,hp1,hg1⟩;have hsz1:w.heap.size+1<=w1.heap.size:=by have:=hg1.size; simpa using this
 have hba:=(q_i _ w1).alloc (q_2 _) (.cells #[.string (nmB (z0n 1 s).1.text),.int .i64 0,.slice none 0 0,.slice none 0 0] 83);have H0:Hid (FnU p tb w1.heap.size (nmB (z0n 1 s).1.text) [] (z0n 1 s).2 w (w1.alloc (.cells #[.string (nmB (z0n 1 s).1.text),.int .i64 0,.slice none 0 0,.slice none 0 0] 83)) none 0 0 []):=zhi ⟨hp1.alloc _,((z02 HB0.out (some p)).trans hg1).trans (z02 hba _),(hba.block _ (by omega)).trans ((hg1.block _ (by simp) (fun e=>by injection e with e; omega)).trans (q_4 w z4m)),by omega,q_4 _ _,rfl,GRow.nil⟩;clear HK hp1 hg1 hba HB0;go_upto_region 2 with fail;obtain ⟨fb,hfb⟩:∃ fb,fb=w1.heap.size:=⟨_,rfl⟩;rw [<- hfb] at H0 ⊢;obtain ⟨w2,hw2⟩:∃ w2,w2=w1.alloc (.cells #[.string (nmB (z0n 1 s).1.text),.int .i64 0,.slice none 0 0,.slice none 0 0] 83):=⟨_,rfl⟩;rw [<- hw2] at H0 ⊢;clear hw2 hfb hfd;have HX:=zhi (z1X [40] w2 H0.out.ra);go_wp2_with fail;refine HX.out.mono ?_;rintro e w3 ⟨⟨v3,rfl⟩,hp3,hg3⟩;have H3:=zhi (H0.out.step plt hg3 hp3);clear HX hp3 hg3 H0;have HA:=zhi (z0U [41] w3 H3.out.ra);go_wp2_with fail;refine HA.out.mono ?_;rintro e w4 ⟨rfl,hp4,hg4⟩;have hl1:=z5H 1 s;have hl2:=z13 [40] (z0n 1 s).2;rcases HPC.out with ⟨hv,rfl,rfl⟩ | ⟨hv,hpar⟩
 ·rw [z1h hv] at hp4;have H:=zhi (H3.out.step plt hg4 hp4);have hb:=HQB.out;have hbk:=HBK.out;clear hp4 hg4 HA H3 HPC HQB HBK;have hLL:=zhi (show (popR (z0h [40] (z0n 1 s).2)).rest.length<=s.rest.length by rw [z0u]; omega);clear hl1 hl2;have HBc:=zhi (hbk p tb (popR (z0h [40] (z0n 1 s).2)) s' bd w4 H.out.ra hb);clear hb;go_wp2_with fail;refine HBc.out.mono ?_;rintro e wb ⟨Db,db,Ab,mb,cb,rfl,hmb,hrb,hpb,hgb,hlb⟩;have hsb:=H.out.lt;have hsl:=H.out.flt;have hszt:=H.out.gr.size;have HB:=zhi (H.out.step plt hgb hpb);have HRb:=zhi hrb;have HMb:=zhi hmb;have HLb:=zhi hlb;have hrow:=HB.out.row;obtain ⟨b0,b1,b2,b3⟩:=cl4 hrow;have f3:=z09 hrow 3;have hszb:=hgb.size;clear hmb hrb hpb hgb hlb HBc H hrow;go_wp2_with (with_reducible refine zb5 ?_);refine z07.of (z00 _ rfl _ _ _ rfl w.heap.size _ rfl (by rfl) _ _ (zcF HB.out) (by kernel_rfl) (by rfl) (by simp [Value.oneCell']) ?_);intro w9 hrow9 hg9;obtain ⟨j0,j1,j2,j3⟩:=cl4 hrow9;have HH:=zhi (zcE (s:=s) HB.out HMb.out HRb.out (by omega) (by have:=HLb.out; have:=hLL.out; omega) plt tlt hg9);clear hrow9 hg9 b0 b1 b2 b3 f3;go_wp2_with fail;exact q_3 (by simp [results,Tryz.results43,go_sem,j0,j1,j2,j3]) rfl HH.out
 ·have h1:=z6A _ hpar;have h2:ps=[]:=HFP.out;rw [h2] at h1;simp at h1
theorem RowG.keep {α:Type} {k:Nat} {V:z1H α} {F G:Nat->Prop} {w w':World} {xs:List α} {A:Option Addr} {c:Nat} (hV:V.Keeps) (hFG:∀ b,F b->G b) (hk:∀ b,F b->w'.heap[b]?=w.heap[b]?) (h:RowG k V F w xs A c):RowG k V G w' xs A c:=by
 refine ⟨h.1,fun i x hi=>?_⟩;obtain ⟨g,cs,h1,h2,h3,h4,h5⟩:=h.2 i x hi;exact ⟨g,cs,h1,hFG g h2,h3,fun j u hu=>(q_6 (hk g h2)).trans (h4 j u hu),hV _ _ _ _ _ _ hFG hk h5⟩
def MFn (D d:Nat):z1H Fn:=fun F w f cs=>∃ A m c bA bm bc,cs=[.string f.name,.int .i64 f.line,.slice A m c,.slice bA bm bc]/\m=f.params.length/\bm=f.body.length/\RowG 1 MStr F w f.params A c/\RowS F w D d f.body bA bc
theorem z27 (D d:Nat):(MFn D d).Keeps:=by
 intro F G w w' f cs hFG hk h;obtain ⟨A,m,c,bA,bm,bc,h1,h2,h3,h4,h5⟩:=h;exact ⟨A,m,c,bA,bm,bc,h1,h2,h3,h4.keep z1x hFG hk,RowS.keep hFG hk h5⟩
theorem MFn.up {D d:Nat} {F:Nat->Prop} {w:World} {f:Fn} {cs:List Value} (h:MFn D d F w f cs) (m n:Nat):MFn (D+m) (d+(n+1)) F w f cs:=by
 obtain ⟨A,q,c,bA,bm,bc,h1,h2,h3,h4,h5⟩:=h;exact ⟨A,q,c,bA,bm,bc,h1,h2,h3,h4,h5.more m n⟩
def MFnX (D d X:Nat):z1H Fn:=fun F w f cs=>MFn D d (fun b=>F b/\b≠X) w f cs
theorem z1w (D d X:Nat):(MFnX D d X).Keeps:=fun _ _ _ _ _ _ hFG hk h=>z27 D d _ _ _ _ _ _ (fun b hb=>⟨hFG b hb.1,hb.2⟩) (fun b hb=>hk b hb.1) h
theorem zcN:(Tryz.prog.info? 83).map (fun i=>(i.zero,i.size,i.bytes))=some (some (.agg #[.string ⟨#[]⟩,.int .i64 0,.slice none 0 0,.slice none 0 0]),4,72):=by kernel_rfl
theorem z3B {α:Type} {k:Nat} {T S:TypeId} {V:z1H α} {ops:Array Oper} {rest:List Oper} {o:Oper} {a:Act} {Q:Exit->Act->World->Prop} (w:World) (hgd:o.guard=none) (s x:Operand)
  (ho:o.op=.call { callee:=.builtin .append,args:=#[s,x],argTypes:=#[S,S] }) (hV:V.Keeps) (z:Value) (bytes:Nat) (ht:Tryz.prog.underlying S=some (.slice T)) (hinfo:(Tryz.prog.info? T).map (fun i=>(i.zero,i.size,i.bytes))=some (some z,k,bytes)) (hzs:z.cells.size=k) (hk0:0<k) (hb0:bytes<=1000)
  (base:Nat) (v:Value) (xs:List α) (L:List Value) (y:α) (cs:List Value) (F:Nat->Prop)
  (hs:a.eval s=v) (hx:a.eval x=.slice (some ⟨w.heap.size,0,none⟩) 1 1) (h:GRow k T V base w v xs L) (hlen:xs.length<=1000000) (hbase:base<=w.heap.size)
  (hcs:cs.length=k) (h1:∀ u∈cs,u.oneCell'=true) (hy:V F w y cs) (hF:∀ b,F b->base<=b/\b<w.heap.size/\v.ownBlock≠some b)
  (hk:∀ g cap w',GRow k T V base w' (.slice (some ⟨g,0,none⟩) (xs.length+1) cap) (xs++[y]) (L++cs)->w.grownBy w' v.ownBlock->(v.ownBlock=some g\/w.heap.size<=g)->wpList Tryz.prog ops Q rest (a.put o.dst (.slice (some ⟨g,0,none⟩) (xs.length+1) cap)) w') :
  wpList Tryz.prog ops Q (o :: rest) a (w.alloc (.cells cs.toArray T)):=by
 obtain ⟨i,hi,hz,hsz,hby⟩:=info_parts hinfo;have hmul:(xs.length+1) * bytes<=1000001 * 1000:=Nat.mul_le_mul (by omega) hb0;refine wpList_append_lies _ hgd s x _ ho base T i z k bytes ht hi hz hsz hby hzs hk0 v xs.length L hs (h.own.alloc _) ⟨w.heap.size,0,none⟩ 1 1 cs hx (by omega) ?_ h1 (by decide) (by unfold maxLen; omega) (by omega) (by simp; omega) _ rfl fun g cap w' h1 h2 h3 _=>hk g cap w' (h.push hV hcs hy hF h1 ((q_i _ w).alloc (q_2 _) _) h2 h3) ((World.grownBy_alloc _ _ _).trans h2) (h3.imp id (fun e=>by rw [e]; simp))
 intro j u hu;rw [Addr.add_lit,Nat.zero_add];exact (zcr _ (q_4 w _)).trans (by simpa using hu)
def z1p:Obj:=.cells #[.slice none 0 0,.slice none 0 0] 31
def obk (v:Value):Nat:=v.ownBlock.getD 0
structure SrcU (p tb pb:Nat) (gl:Gls) (fl:List Fn) (s:RS) (w wr:World) (gA:Option Addr) (gm gc:Nat) (Lg:List Value) (fA:Option Addr) (fm fc:Nat) (Lf:List Value) (D d:Nat):Prop where
 ra:RA wr p tb s
 gr:w.grownBy wr (some p)
 z:wr.heap[w.heap.size]?=some z1p
 lt:w.heap.size<pb
 row:wr.heap[pb]?=some (.cells #[.slice gA gm gc,.slice fA fm fc] 31 (0,0))
 hgm:gm=gl.length
 hfm:fm=fl.length
 gs:GRow 2 68 MGl (pb+1) wr (.slice gA gm gc) gl Lg
 fs:GRow 4 83 (MFnX D d (obk (.slice gA gm gc))) (pb+1) wr (.slice fA fm fc) fl Lf
 sep:∀ b,(Value.slice fA fm fc).ownBlock=some b->b≠obk (.slice gA gm gc)
section
variable {p tb pb:Nat} {gl:Gls} {fl:List Fn} {s s':RS} {w wr w':World} {gA fA:Option Addr} {gm gc fm fc D d:Nat} {Lg Lf:List Value}
theorem SrcU.plt (h:SrcU p tb pb gl fl s w wr gA gm gc Lg fA fm fc Lf D d):pb<wr.heap.size:=(q_0.1 h.row).1
theorem SrcU.step (h:SrcU p tb pb gl fl s w wr gA gm gc Lg fA fm fc Lf D d) (hp:p<w.heap.size) (hg:wr.grownBy w' (some p)) (ha:RA w' p tb s'):SrcU p tb pb gl fl s' w w' gA gm gc Lg fA fm fc Lf D d:=by
 have hlt:=h.lt;exact ⟨ha,h.gr.trans hg,z04 hg (by omega) h.z,h.lt,z04 hg (by omega) h.row,h.hgm,h.hfm,h.gs.grown z1B hg (by omega),h.fs.grown (z1w _ _ _) hg (by omega),h.sep⟩
theorem GRow.other {α:Type} {k:Nat} {T:TypeId} {V:z1H α} {base:Nat} {v:Value} {xs:List α} {L:List Value} {o:Option Nat} (hV:∀ F G w w' x cs,V F w x cs->V G w' x cs) (h:GRow k T V base w v xs L) (hg:w.grownBy w' o) (hne:∀ b,v.ownBlock=some b->o≠some b):GRow k T V base w' v xs L:=by
 refine ⟨?_,fun j x hj=>?_⟩
 ·rcases h.own.2 with hn | ⟨g',cap,cur,e,hb',hh,rest⟩
  ·exact ⟨h.own.1,.inl hn⟩
  ·exact ⟨h.own.1,.inr ⟨g',cap,cur,e,hb',(hg.block g' (q_0.1 hh).1 (fun e2=>hne g' (by rw [e]; rfl) e2.symm)).trans hh,rest⟩⟩
 ·obtain ⟨cs,h1,h2,h3⟩:=h.at_ j x hj;exact ⟨cs,h1,h2,hV _ _ _ _ _ _ h3⟩
theorem zea {v:Value}:∀ b,v.ownBlock=some b->b=obk v:=fun b hb=>by rw [obk,hb]; rfl
theorem ze9 {v:Value} {n:Nat} (h:∀ b,v.ownBlock=some b->b<n) (hn:0<n):obk v<n:=by
 cases e:v.ownBlock with
 | none=>rw [obk,e]; exact hn
 | some b=>rw [obk,e]; exact h b e
theorem SrcU.pushF {y:Fn} {g8 cap D' d':Nat} {w1 w2:World} {cs:List Value} (h:SrcU p tb pb gl fl s w wr gA gm gc Lg fA fm fc Lf D d) (hp:p<w.heap.size) (ht:tb<w.heap.size) (hb1:Below wr.heap.size wr w1) (h2:GRow 4 83 (MFnX D' d' (obk (.slice gA gm gc))) (pb+1) w2 (.slice (some ⟨g8,0,none⟩) (fl.length+1) cap) (fl++[y]) (Lf++cs)) (hg:w1.grownBy w2 (Value.slice fA fm fc).ownBlock) (hg8:(Value.slice fA fm fc).ownBlock=some g8\/w1.heap.size<=g8) :
  SrcU p tb pb gl (fl++[y]) s w (w2.setCell ⟨pb,1,none⟩ (.slice (some ⟨g8,0,none⟩) (fl.length+1) cap)) gA gm gc Lg (some ⟨g8,0,none⟩) (fl.length+1) cap (Lf++cs) D' d':=by
 have hlt:=h.lt;have hpl:=h.plt;have hs1:=hb1.size;have hb:Below (pb+1) wr w2:=(hb1.mono (by omega)).trans (z05 hg (fun k hk=>(h.fs.own.lt k hk).1) (by omega));have hs:w2.grownBy (w2.setCell ⟨pb,1,none⟩ (.slice (some ⟨g8,0,none⟩) (fl.length+1) cap)) (some pb):=z03 w2 ⟨pb,1,none⟩ _;have hr2:=(hb.block pb (by omega)).trans h.row;have hgs:=((h.gs.other (o:=none) (fun _ _ _ _ _ _ h=>h) ⟨hb1.os,hb1.tape,hb1.output,hb1.size,fun k hk _=>hb1.block k hk⟩ (fun _ _ e=>by cases e)).other (fun _ _ _ _ _ _ h=>h) hg (fun b hb e=>h.sep b e (zea b hb)));refine ⟨(h.ra.low hb (by omega) (by omega)).other hs (by omega) (by omega),z0r (z1N h.gr hb (by omega)) hs (by omega),z04 hs (by omega) ((hb.block _ (by omega)).trans h.z),h.lt,z0a (i:=1) (.slice (some ⟨g8,0,none⟩) (fl.length+1) cap) hr2,h.hgm,by simp,hgs.grown z1B hs (by omega),h2.grown (z1w _ _ _) hs (by omega),?_⟩;intro b hb;have e:g8=b:=by simpa [Value.ownBlock] using hb
 subst e;rcases hg8 with h8 | h8
 ·exact h.sep _ h8
 ·intro e
  by_cases hn:(Value.slice gA gm gc).ownBlock=none
  ·rw [obk,hn] at e;simp at e;omega
  ·obtain ⟨b,hb⟩:=Option.ne_none_iff_exists'.1 hn;have:=(h.gs.own.lt b hb).2;rw [obk,hb] at e;simp at e;omega
end
def zdC (p tb:Nat) (gl:Gls) (fl:List Fn) (s s':RS) (w:World) (e:Ending) (w':World):Prop:=∃ D d gA gm gc fA fm fc,e=.returned (.agg #[.slice gA gm gc,.slice fA fm fc])/\gm=gl.length/\fm=fl.length /\
 RowG 2 MGl (fun q=>w.heap.size<=q/\q<w'.heap.size) w' gl gA gc/\RowG 4 (MFn D d) (fun q=>w.heap.size<=q/\q<w'.heap.size) w' fl fA fc/\RA w' p tb s'/\w.grownBy w' (some p)/\s'.rest.length<=s.rest.length
theorem z7t {p tb pb:Nat} {gl:Gls} {fl:List Fn} {s s':RS} {w wr w9:World} {gA fA:Option Addr} {gm gc fm fc D d:Nat} {Lg Lf:List Value} (h:SrcU p tb pb gl fl s' w wr gA gm gc Lg fA fm fc Lf D d) (hl:s'.rest.length<=s.rest.length) (hp:p<w.heap.size) (ht:tb<w.heap.size) (hg9:wr.grownBy w9 (some w.heap.size)):zdC p tb gl fl s s' w (.returned (.agg #[.slice gA gm gc,.slice fA fm fc])) w9:=by
 have hlt:=h.lt;have h1:=((h.gs.grown z1B hg9 (by omega)).row z1B).2;have h2:=((h.fs.grown (z1w _ _ _) hg9 (by omega)).row (z1w _ _ _)).2;refine ⟨D,d,gA,gm,gc,fA,fm,fc,rfl,h.hgm,h.hfm,h1.keep z1B (fun b hb=>⟨by omega,hb.2⟩) (fun _ _=>rfl),⟨h2.1,fun i x hi=>?_⟩,h.ra.other hg9 (by omega) (by omega),z0r h.gr hg9 (q_2 _),hl⟩;obtain ⟨g,cs,q1,q2,q3,q4,q5⟩:=h2.2 i x hi;exact ⟨g,cs,q1,⟨by omega,q2.2⟩,q3,q4,z27 D d _ _ _ _ _ _ (fun b hb=>⟨by have:=hb.1.1; omega,hb.1.2⟩) (fun _ _=>rfl) q5⟩
theorem zaH {f:Fn} {ln:Int} {n0 X D d Df df m c bm bc:Nat} {A bA:Option Addr} {w:World} (hm:m=f.params.length) (hbm:bm=f.body.length) (hps:RowG 1 MStr (fun q=>n0<=q/\q<w.heap.size) w f.params A c) (hbd:RowS (fun q=>n0<=q/\q<w.heap.size) w Df df f.body bA bc) (hX:X<n0) :
  MFnX (D+Df) (d+df+1) X (fun q=>n0<=q/\q<w.heap.size) w { f with line:=ln } [.string f.name,.int .i64 ln,.slice A m c,.slice bA bm bc]:=by
 refine ⟨A,m,c,bA,bm,bc,rfl,hm,hbm,hps.keep z1x (fun b hb=>⟨hb,by have:=hb.1; omega⟩) (fun _ _=>rfl),RowS.keep (fun b hb=>⟨hb,by have:=hb.1; omega⟩) (fun _ _=>rfl) ?_⟩;have:=hbd.more D d;have e:df+(d+1)=d+df+1:=by omega
 rw [Nat.add_comm Df D,e] at this;exact this
def z5Z (w:World) (b:Nat):Nat:=match w.cell? ⟨b,0,none⟩,w.cell? ⟨b,1,none⟩ with | some (.slice _ n _),some (.slice _ m _)=>n+m | _,_=>0
theorem SrcU.len {p tb pb:Nat} {gl:Gls} {fl:List Fn} {s:RS} {w wr:World} {gA fA:Option Addr} {gm gc fm fc D d:Nat} {Lg Lf:List Value} (h:SrcU p tb pb gl fl s w wr gA gm gc Lg fA fm fc Lf D d):z5Z wr pb=gl.length+fl.length:=by
 have e0:wr.cell? ⟨pb,0,none⟩=some (.slice gA gm gc):=by rw [zcr 0 h.row]; rfl
 have e1:wr.cell? ⟨pb,1,none⟩=some (.slice fA fm fc):=by rw [zcr 1 h.row]; rfl
 rw [z5Z,e0,e1,<- h.hgm,<- h.hfm]
def zck (B:RSL) (p tb pb n0:Nat) (G:Gls) (Fs:List Fn) (s s':RS) (w wr:World):Prop:=∃ n gl fl ss gA gm gc Lg fA fm fc Lf D d,z1E B n gl fl ss=some (G,Fs,s')/\n+gl.length+fl.length=n0/\SrcU p tb pb gl fl ss w wr gA gm gc Lg fA fm fc Lf D d/\ss.rest.length<=s.rest.length
theorem z3c {B:RSL} {n:Nat} {gl G:Gls} {fl Fs:List Fn} {s s':RS} (h:z1E B n gl fl s=some (G,Fs,s')):(s.bad=true/\G=gl/\Fs=fl/\s'=s)\/(s.bad=false/\(((hdR s).kind=0/\G=gl/\Fs=fl/\s'=s)\/((hdR s).kind≠0/\∃ m,n=m+1 /\
  ((isR z3X s=true/\z1E B m (gl++[(z4W (popR s)).1]) fl (z4W (popR s)).2=some (G,Fs,s'))\/(isR z3X s=false/\∃ f s1,z26 B (z0h z7O s)=some (f,s1)/\z1E B m gl (fl++[{ f with line:=((hdR s).line:Int) }]) s1=some (G,Fs,s')))))):=by
 cases n with
 | zero=>cases h
 | succ m =>
  simp only [z1E] at h;cases hb:s.bad with
  | true =>
   simp only [hb,if_true] at h;injection h with h;injection h with e1 e2;injection e2 with e2 e3;exact .inl ⟨rfl,e1.symm,e2.symm,e3.symm⟩
  | false =>
   simp only [hb,Bool.false_eq_true,if_false] at h;refine .inr ⟨rfl,?_⟩
   by_cases hk:(hdR s).kind=0
   ·rw [if_pos hk] at h;injection h with h;injection h with e1 e2;injection e2 with e2 e3;exact .inl ⟨hk,e1.symm,e2.symm,e3.symm⟩
   ·rw [if_neg hk] at h;refine .inr ⟨hk,m,rfl,?_⟩;cases hi:isR z3X s with
    | true=>rw [if_pos hi] at h; exact .inl ⟨rfl,h⟩
    | false =>
     rw [if_neg (by rw [hi]; decide)] at h;refine .inr ⟨rfl,?_⟩;cases hq:z26 B (z0h z7O s) with
     | none=>rw [hq] at h; cases h
     | some q=>rw [hq] at h; exact ⟨q.1,q.2,rfl,h⟩
theorem z3O {P:Program} {w:World} {ops:Array Oper} {rest:List Oper} {d:Option Tmp} {ty:TypeId} {x y:Operand} {pos:String} {af:Array Edge} {gd:Option (Nat × Bool)} {a:Act} {Q:Exit->Act->World->Prop}
  (h:z07 (wpList P ops Q ({ dst:=d,op:=.store 31 x y,type:=ty,pos:=pos,after:=af,guard:=gd } :: rest) a w)):wpList P ops Q ({ dst:=d,op:=.store 31 x y,type:=ty,pos:=pos,after:=af,guard:=gd } :: rest) a w:=h
theorem z4e {B:RSL}:∀ (n:Nat) {gl G:Gls} {fl Fs:List Fn} {s s':RS},z1E B n gl fl s=some (G,Fs,s')->(∃ r,G=gl++r)/\∃ q,Fs=fl++q:=by
 intro n
 induction n with
 | zero=>intro gl G fl Fs s s' h; cases h
 | succ n ih =>
  intro gl G fl Fs s s' h;rcases z3c h with ⟨_,rfl,rfl,_⟩ | ⟨_,⟨_,rfl,rfl,_⟩ | ⟨_,m,e,⟨_,h2⟩ | ⟨_,f,s1,_,h2⟩⟩⟩
  ·exact ⟨⟨[],by simp⟩,[],by simp⟩
  ·exact ⟨⟨[],by simp⟩,[],by simp⟩
  ·have:m=n:=by omega
   subst this;obtain ⟨⟨r,hr⟩,q,hq⟩:=ih h2;exact ⟨⟨_ :: r,by rw [hr,List.append_assoc]; rfl⟩,q,hq⟩
  ·have:m=n:=by omega
   subst this;obtain ⟨⟨r,hr⟩,q,hq⟩:=ih h2;exact ⟨⟨r,hr⟩,_ :: q,by rw [hq,List.append_assoc]; rfl⟩
theorem zbj (B:RSL) (hbk:SubB 63 B) (p tb:Nat) (s s':RS) (G:Gls) (Fs:List Fn) (w:World) (h:RA w p tb s) (hP:z1E B (s.rest.length+1) [] [] s=some (G,Fs,s')) (hG:G=[]) (hFp:∀ f∈Fs,f.params=[]):Calls Tryz.prog 23 #[.pointer (some ⟨p,0,none⟩)] w (zdC p tb G Fs s s' w):=by
 have plt:=h.lt.1;have tlt:=h.lt.2.1;have hsm:=h.sm;have HBK:=zhi hbk;have HG0:=zhi hG;have HFp:=zhi hFp;clear hG hFp;have HSM:=zhi hsm;have hb0:=((q_i _ w).alloc (q_2 _) z1p).alloc (by simp) z1p;have HR:Hid (zck B p tb (w.heap.size+1) (s.rest.length+1) G Fs s s' w ((w.alloc z1p).alloc z1p)):=zhi ⟨_,[],[],s,none,0,0,[],none,0,0,[],0,0,hP,rfl,⟨h.below hb0,z02 hb0 _,z14 w z1p z1p,by omega,z0T w z1p z1p,rfl,rfl,GRow.nil,GRow.nil,fun b hb=>by simp [Value.ownBlock] at hb⟩,q_2 _⟩;unfold z1p at HR;clear hP h hb0 hsm hbk;go_enter Tryz.func23,Tryz.ntmps23;go_wp2_with fail;obtain ⟨pb,hpb⟩:∃ pb,pb=w.heap.size+1:=⟨_,rfl⟩;rw [<- hpb] at HR ⊢;obtain ⟨ws,hws⟩:∃ ws,ws=(w.alloc (.cells #[.slice none 0 0,.slice none 0 0] 31)).alloc (.cells #[.slice none 0 0,.slice none 0 0] 31):=⟨_,rfl⟩;rw [<- hws] at HR ⊢;clear hws hpb
 go_loopw [4] (fun _ wr=>zck B p tb pb (s.rest.length+1) G Fs s s' w wr) (fun _ wr=>(s.rest.length+1) - z5Z wr pb)
 case atStart=>exact HR.out
 case round =>
  obtain ⟨n,gl,fl,ss,gA,gm,gc,Lg,fA,fm,fc,Lf,D,d,hsrc,hn,hU,hl⟩:=hrel;have hgm:=hU.hgm;have hfm:=hU.hfm;subst hgm hfm;clear HR;have HU:=zhi hU;have HLEN:=zhi hU.len;have HC:=zhi (z3c hsrc);have HN:=zhi hn;have Hl:=zhi hl;have hlt:=hU.lt;have hpl:=hU.plt;have HNow:=zhi (z3m wr hU.ra);obtain ⟨a,c,N,hr⟩:=hU.ra;have c2:=hr.cells.2.2.1;clear hsrc hn hU hl hr;cases hb:ss.bad with
  | true =>
   rw [hb] at c2;rcases HC.out with ⟨_,rfl,rfl,rfl⟩ | ⟨h0,_⟩
   ·have H:=HU;clear HC HNow hb HLEN HN;go_upto_region 10 with fail;clear c2;have hrow:=H.out.row;obtain ⟨b0,b1⟩:=cl2 hrow;clear hrow;go_wp2_with (with_reducible refine z3O ?_);refine z07.of (z00 _ rfl _ _ _ rfl w.heap.size _ rfl (by rfl) _ _ H.out.z (by kernel_rfl) (by rfl) (by simp [Value.oneCell']) ?_);intro w9 hrow9 hg9;obtain ⟨j0,j1⟩:=cl2 hrow9;have HH:=zhi (z7t (s:=s) H.out Hl.out plt tlt hg9);clear hrow9 hg9 b0 b1;go_wp2_with fail;exact q_3 (by simp [results,Tryz.results23,go_sem,j0,j1]) rfl HH.out
   ·rw [hb] at h0; cases h0
  | false =>
   rw [hb] at c2;rcases HC.out with ⟨h0,_⟩ | ⟨_,hc⟩
   ·rw [hb] at h0; cases h0
   ·have hfd0:∀ w:World,(Instr.field 110 (.agg #[.int .i64 ((hdR ss).kind:Int),.int .i64 ((hdR ss).line:Int),.int .i64 ((hdR ss).value:Int),.string (nmB (hdR ss).text)]) 0).run Tryz.prog w=.ok (.int .i64 ((hdR ss).kind:Int)) w:=fun _=>by kernel_rfl
    have hfd1:∀ w:World,(Instr.field 110 (.agg #[.int .i64 ((hdR ss).kind:Int),.int .i64 ((hdR ss).line:Int),.int .i64 ((hdR ss).value:Int),.string (nmB (hdR ss).text)]) 1).run Tryz.prog w=.ok (.int .i64 ((hdR ss).line:Int)) w:=fun _=>by kernel_rfl
    clear HC hb;go_wp2_with fail;refine HNow.out.mono ?_;rintro e w2 ⟨rfl,hb2⟩;unfold z1F;have H2:=zhi (HU.out.step plt (z02 hb2 _) (HU.out.ra.below hb2));have hpl2:=q_1 hpl hb2.size;clear hb2 HNow HU c2;rcases hc with ⟨hk,rfl,rfl,rfl⟩ | ⟨hk,m,rfl,hc⟩
    ·have hk':(((hdR s').kind:Int) != 0)=false:=by simp [hk]
     have H:=H2;clear hk HLEN HN;go_upto_region 10 with fail;clear hk' hfd0 hfd1;have hrow:=H.out.row;obtain ⟨b0,b1⟩:=cl2 hrow;clear hrow;go_wp2_with (with_reducible refine z3O ?_);refine z07.of (z00 _ rfl _ _ _ rfl w.heap.size _ rfl (by rfl) _ _ H.out.z (by kernel_rfl) (by rfl) (by simp [Value.oneCell']) ?_);intro w9 hrow9 hg9;obtain ⟨j0,j1⟩:=cl2 hrow9;have HH:=zhi (z7t (s:=s) H.out Hl.out plt tlt hg9);clear hrow9 hg9 b0 b1;go_wp2_with fail;exact q_3 (by simp [results,Tryz.results23,go_sem,j0,j1]) rfl HH.out
    ·have hk':(((hdR ss).kind:Int) != 0)=true:=by simp; omega
     have HA:=zhi (z0U z3X w2 H2.out.ra);clear hk;go_wp2_with fail;refine HA.out.mono ?_;rintro e w3 ⟨rfl,hp3,hg3⟩;have hpl3:=q_1 hpl2 hg3.size;clear hk' hfd0;rcases hc with ⟨hv,hnext⟩ | ⟨hv,f,s1,hfn,hnext⟩
     ·obtain ⟨⟨r,hr⟩,_⟩:=z4e m hnext;rw [HG0.out] at hr;have:=congrArg List.length hr;simp at this
     ·rw [z1b hv] at hp3;have H3:=zhi (H2.out.step plt hg3 hp3);have HNow3:=zhi (z3m w3 H3.out.ra);have HNX:=zhi hnext;have HFN:=zhi hfn;have HFf:Hid (f.params=[]):=zhi (by
       obtain ⟨_,⟨q,hq⟩⟩:=z4e m hnext;exact HFp.out { f with line:=((hdR ss).line:Int) } (by rw [hq]; simp))
      clear hp3 hg3 HA H2 hnext hfn;go_wp2_with fail;refine HNow3.out.mono ?_;rintro e w4 ⟨rfl,hb4⟩;unfold z1F;have H4:=zhi (H3.out.step plt (z02 hb4 _) (H3.out.ra.below hb4));have hpl4:=q_1 hpl3 hb4.size;have HX4:=zhi (z1X z7O w4 H4.out.ra);clear hb4 HNow3 H3;go_wp2_with fail;refine HX4.out.mono ?_;rintro e w5 ⟨⟨v5,rfl⟩,hp5,hg5⟩;have H5:=zhi (H4.out.step plt hg5 hp5);have hpl5:=q_1 hpl4 hg5.size;have HF5:=zhi (z7P B HBK.out p tb (z0h z7O ss) s1 f w5 H5.out.ra HFN.out HFf.out);clear hp5 hg5 HX4 H4 hfd1;go_wp2_with fail;refine HF5.out.mono ?_;rintro e w6 ⟨Df,df,A6,m6,c6,bA6,bm6,bc6,rfl,hm6,hbm6,hps6,hbd6,hp6,hg6,hl6⟩;have hpl6:=q_1 hpl5 hg6.size;have hsz6:=hg6.size;have H6:=zhi (H5.out.step plt hg6 hp6);have HFV:=zhi (zaH (X:=obk (.slice gA gl.length gc)) (ln:=((hdR ss).line:Int)) (D:=D) (d:=d) hm6 hbm6 hps6 hbd6 (ze9 (fun b hb=>(H5.out.gs.own.lt b hb).2) (by omega)));have HL6:=zhi hl6;have hfs6:=H6.out.fs;have HFS6:=zhi (hfs6.map (V':=MFnX (D+Df) (d+df+1) (obk (.slice gA gl.length gc))) (fun F w x cs h=>by
       have:=MFn.up h Df df;have e:d+(df+1)=d+df+1:=by omega
       rw [e] at this;exact this))
      have hxl:fl.length<=1000000:=by have:=HN.out; have:=HSM.out; omega
      clear hm6 hbm6 hps6 hbd6 hp6 hg6 hl6 HF5 hfs6;have HOG:=zhi (fun b hb=>(H5.out.gs.own.lt b hb).2);have HOF:=zhi (fun b hb=>(H5.out.fs.own.lt b hb).2);have hrow6:=H6.out.row;have b1:=zcr 1 hrow6;clear hrow6;go_wp2_with (at_builtin; refine z07.out ?_);have hba:=(q_i _ w6).alloc (q_2 _) (.cells #[.string f.name,.int .i64 ((hdR ss).line:Int),.slice A6 m6 c6,.slice bA6 bm6 bc6] 83);have HFSa:=zhi (HFS6.out.grown (z1w _ _ _) (z02 hba (some p)) (by omega));have HFVa:=zhi (z1w _ _ _ _ (fun q=>w5.heap.size<=q/\q<w6.heap.size) _ _ _ _ (fun _ h=>h) (fun b hb=>hba.block b hb.2) HFV.out);have HBA:=zhi hba;refine z07.of (z3B (k:=4) (T:=83) (S:=29) (V:=MFnX (D+Df) (d+df+1) (obk (.slice gA gl.length gc))) (w6.alloc (.cells #[.string f.name,.int .i64 ((hdR ss).line:Int),.slice A6 m6 c6,.slice bA6 bm6 bc6] 83)) rfl (.tmp 36) (.tmp 38) rfl (z1w _ _ _) _ _ Tryz.underlying29 zcN rfl (by decide) (by decide) (pb+1) (.slice fA fl.length fc) fl Lf { f with line:=((hdR ss).line:Int) } [.string f.name,.int .i64 ((hdR ss).line:Int),.slice A6 m6 c6,.slice bA6 bm6 bc6] (fun q=>w5.heap.size<=q/\q<w6.heap.size) rfl (by simp [Act.eval]) HFSa.out hxl (by simp; omega) rfl (by simp [Value.oneCell']) HFVa.out (fun b hb=>⟨by omega,by simp; omega,fun e=>by have:=HOF.out b e; omega⟩) ?_);intro g8 cap8 wz hfs8 hg8 hat8;have hu:=H6.out.pushF plt tlt HBA.out hfs8 hg8 hat8;have hbz:Below (pb+1) w6 wz:=(HBA.out.mono (by omega)).trans (z05 hg8 (fun k hk=>(HFSa.out.own.lt k hk).1) (by simp; omega));have hrowz:=(hbz.block pb (by omega)).trans H6.out.row;have q1:=zcr 1 hrowz;have g1:=z09 hrowz 1;have hel:=z13 z7O ss;have HE:Hid (zck B p tb pb (s.rest.length+1) G Fs s s' w (wz.setCell ⟨pb,1,none⟩ (.slice (some ⟨g8,0,none⟩) (fl.length+1) cap8))/\(s.rest.length+1) - z5Z (wz.setCell ⟨pb,1,none⟩ (.slice (some ⟨g8,0,none⟩) (fl.length+1) cap8)) pb<(s.rest.length+1) - z5Z wr pb):=zhi ⟨⟨m,gl,fl++[{ f with line:=((hdR ss).line:Int) }],s1,_,_,_,_,_,_,_,_,_,_,HNX.out,by have:=HN.out; simp; omega,hu,by have:=HL6.out; have:=Hl.out; omega⟩,by rw [hu.len,HLEN.out]; have:=HN.out; simp; omega⟩;clear hba hfs8 hg8 hat8 hu hbz hrowz hel b1 HFSa HFVa HBA HFS6 HFV H5 H6;go_wp2_with fail;exact HE.out
def z7g (l:z0e):Option (Except (Nat × Nat) (Gls × List Fn)) :=
 match z3a l with
 | .error q=>some (.error q)
 | .ok ts =>
  match z1E (z4u (z6O z6h)) (ts.length+1) [] [] ⟨ts,false,0⟩ with
  | none=>none
  | some (gl,fl,s)=>if (z2L s).2=0 then some (.ok (gl,fl)) else some (.error (z2L s))
def zbO (x:Except (Nat × Nat) (Gls × List Fn)) (w:World) (e:Ending) (w':World):Prop :=
 match x with
 | .error (n,c)=>e=.returned (.tuple #[.agg #[.slice none 0 0,.slice none 0 0],.int .i64 (n:Int),.int .i64 (c:Int)])/\Below w.heap.size w w'
 | .ok (gl,fl)=>∃ D d gA gc fA fc,e=.returned (.tuple #[.agg #[.slice gA gl.length gc,.slice fA fl.length fc],.int .i64 0,.int .i64 0]) /\
  RowG 2 MGl (fun q=>w.heap.size<=q/\q<w'.heap.size) w' gl gA gc/\RowG 4 (MFn D d) (fun q=>w.heap.size<=q/\q<w'.heap.size) w' fl fA fc/\Below w.heap.size w w'
theorem zcY (str:Zb) (fs:List Fn) (w:World) (hs:str.size<=140737488355328) (hfs:∀ f∈fs,f.params=[]) (hP:z7g str.data.toList=some (.ok ([],fs))):Calls Tryz.prog 12 #[.string str] w (zbO (.ok ([],fs)) w):=by
 have HS:=zhi (z9O str (w.alloc z1p) hs);have hb0:=(q_i _ w).alloc (q_2 _) z1p;have HB0:=zhi hb0;have HZ0:=zhi (q_4 w z1p);unfold z7g at hP;cases hsc:z3a str.data.toList with
 | error q =>
  obtain ⟨n,cd⟩:=q;rw [hsc] at hP;injection hP with hP;cases hP
 | ok ts =>
  rw [hsc] at hP HS;dsimp only at hP;obtain ⟨hwf,hlen⟩:=zbg hsc;cases hsr:z1E (z4u (z6O z6h)) (ts.length+1) [] [] ⟨ts,false,0⟩ with
  | none=>rw [hsr] at hP; cases hP
  | some q =>
   obtain ⟨gl,fl,s'⟩:=q;rw [hsr] at hP;dsimp only at hP;have hdc:(z2L s').2=0:=by
    by_cases h:(z2L s').2=0
    ·exact h
    ·rw [if_neg h] at hP;cases hP
   rw [if_pos hdc] at hP;injection hP with hP;injection hP with hP;injection hP with e1 e2;subst e1 e2;have Hfs:=zhi hfs;have HDC:=zhi hdc;clear hfs hdc;have HSR:=zhi hsr;have HWF:=zhi hwf;have HLen:=zhi hlen;unfold z1p at HS HB0 HZ0;clear hb0 hsc hs hsr hwf hlen;go_enter Tryz.func12,Tryz.ntmps12;go_wp2_with fail;refine HS.out.mono ?_;rintro e w1 ⟨v,rfl,hown,hb1⟩;obtain ⟨tb,tc,rfl,htb,htl,hra⟩:=zb3 hown HWF.out HLen.out;have hsz1:w.heap.size+1<=w1.heap.size:=by have:=hb1.size; simpa using this
   have htb':w.heap.size+1<=tb:=by simpa using htb
   have hba:=(q_i _ w1).alloc (q_2 _) (.cells #[.slice (some ⟨tb,0,none⟩) ts.length tc,.int .i64 0,.bool false,.int .i64 0] 77);have HB1:=zhi ((HB0.out.trans (hb1.mono (by simp))).trans (hba.mono (by omega)));have HZ1:=zhi ((hba.block _ (by omega)).trans ((hb1.block _ (by simp)).trans HZ0.out));have HSC:=zhi (zbj (z4u (z6O z6h)) (z7F) w1.heap.size tb ⟨ts,false,0⟩ s' [] fl _ (hra 77) HSR.out rfl Hfs.out);have hszp:w.heap.size<(w1.alloc (.cells #[.slice (some ⟨tb,0,none⟩) ts.length tc,.int .i64 0,.bool false,.int .i64 0] 77)).heap.size:=by simp; omega
   clear hown hb1 hra hba HS HZ0 HB0;go_wp2_with fail;refine HSC.out.mono ?_;rintro e w2 ⟨D,dd,gA,gm,gc,fA,fm,fc,rfl,hgm,hfm,hgs,hfs,hp2,hg2,hl2⟩;subst hgm hfm;have HZ2:=zhi (z04 hg2 (by omega) HZ1.out);have HG2:=zhi ((z02 HB1.out (some w1.heap.size)).trans hg2);have HGS:=zhi hgs;have HFS:=zhi hfs;have HP2:=zhi hp2;have HB2:=zhi (show Below w.heap.size w w2 from HB1.out.trans (z05 hg2 (fun k hk=>by injection hk with hk; omega) (by omega)));have hlw2:w.heap.size<w2.heap.size:=(q_0.1 HZ2.out).1;have hszq:=hg2.size;clear hgs hfs hp2 hg2 hl2 HSC HZ1 HB1;go_wp2_with (with_reducible refine z3O ?_);refine z07.of (z00 _ rfl _ _ _ rfl w.heap.size _ rfl (by rfl) _ _ HZ2.out (by kernel_rfl) (by rfl) (by simp [Value.oneCell']) ?_);intro w3 hrow3 hg3;dsimp only [Act.put];have hb3:Below w.heap.size w w3:=HB2.out.trans (z05 hg3 (fun k hk=>by injection hk with hk; omega) (by omega));have HD3:=zhi (zdJ w3 (HP2.out.other hg3 (by omega) (by omega)));have HGS3:=zhi (HGS.out.keep (G:=fun q=>w.heap.size+1<=q/\q<w3.heap.size) z1B (fun q hq=>⟨by omega,q_1 hq.2 hg3.size⟩) (fun q hq=>hg3.block q hq.2 (fun e=>by injection e with e; omega)));have HFS3:=zhi (HFS.out.keep (G:=fun q=>w.heap.size+1<=q/\q<w3.heap.size) (z27 D dd) (fun q hq=>⟨by omega,q_1 hq.2 hg3.size⟩) (fun q hq=>hg3.block q hq.2 (fun e=>by injection e with e; omega)));have HB3:=zhi hb3;have HRow3:=zhi hrow3;clear hrow3 hg3 hb3 HGS HFS HB2 HZ2 HG2;go_wp2_with fail;refine HD3.out.mono ?_;rintro e w4 ⟨rfl,hb4⟩;have hrow4:=(hb4.block _ (q_0.1 HRow3.out).1).trans HRow3.out;have HB4:=zhi (z08 HB3.out hb4);have HGS4:=zhi (HGS3.out.keep (G:=fun q=>w.heap.size+1<=q/\q<w4.heap.size) z1B (fun q hq=>⟨hq.1,q_1 hq.2 hb4.size⟩) (fun q hq=>hb4.block q hq.2));have HFS4:=zhi (HFS3.out.keep (G:=fun q=>w.heap.size+1<=q/\q<w4.heap.size) (z27 D dd) (fun q hq=>⟨hq.1,q_1 hq.2 hb4.size⟩) (fun q hq=>hb4.block q hq.2));have HRow4:=zhi hrow4;obtain ⟨c0,c1⟩:=cl2 hrow4;have hs4:=HB4.out.size;clear hrow4 hb4 HD3 HGS3 HFS3 HB3 HRow3;have hdc:=HDC.out;generalize z2L s'=dq at hdc;obtain ⟨dn,dc⟩:=dq;dsimp only at hdc;subst hdc;go_wp2_with (with_reducible refine z3O ?_);refine z07.of (z00 _ rfl _ _ _ rfl w.heap.size _ rfl (by rfl) _ _ HRow4.out (by kernel_rfl) (by rfl) (by simp [Value.oneCell']) ?_);intro w9 hrow9 hg9;obtain ⟨j0,j1⟩:=cl2 hrow9;have HE:Hid (zbO (.ok ([],fl)) w (.returned (.tuple #[.agg #[.slice gA ([]:Gls).length gc,.slice fA fl.length fc],.int .i64 0,.int .i64 0])) w9):=zhi ⟨D,dd,gA,gc,fA,fc,rfl,HGS4.out.keep z1B (fun q hq=>⟨by omega,q_1 hq.2 hg9.size⟩) (fun q hq=>hg9.block q hq.2 (fun e=>by injection e with e; omega)),HFS4.out.keep (z27 D dd) (fun q hq=>⟨by omega,q_1 hq.2 hg9.size⟩) (fun q hq=>hg9.block q hq.2 (fun e=>by injection e with e; omega)),HB4.out.trans (z05 hg9 (fun k hk=>by injection hk with hk; omega) (by omega))⟩;clear hrow9 hg9 c0 c1;go_wp2_with fail;exact q_3 (by simp [results,Tryz.results12,go_sem,j0,j1]) rfl HE.out
end Go.Proofs.YtdflbhofmmlpgaaGreat
