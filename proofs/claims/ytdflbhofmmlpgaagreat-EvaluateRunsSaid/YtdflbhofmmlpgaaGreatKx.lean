/-
  Kx: Gen18, TokSame, TokA, SrcA. Part of the proof. No condition.
-/
import Derived.Test.YtdflbhofmmlpgaaGreatKw
import Derived.RegionTactic
import Derived.ChangeAlike
import Derived.BigRegion
set_option maxRecDepth 100000
set_option maxHeartbeats 8000000
namespace Go.Proofs.YtdflbhofmmlpgaaGreat
open Go.RowKit
theorem z7x (m g:Nat) (l:List Nat) (base:Nat):∀ d,d<=5->z8m m g l base d
 | 0,_=>z60 m g l base 0 (by omega) (fun d' h=>by omega) (fun h=>by omega)
 | d+1,h=>by
  have hb:=z3T m g l base d (by omega) (z7x m g l base d (by omega));exact z60 m g l base (d+1) h (fun d' hd=>by
                             obtain rfl:d=d':=by omega
                             exact hb) (fun _=>z9h m g l base d (by omega) hb)
theorem z8u (m g:Nat) (l:List Nat) (base d:Nat) (h:d<=5):z3R m g l base d:=z3T m g l base d h (z7x m g l base d h)
def za4 (c:UInt8):Bool:=!wordy c&&decide (c.toNat≠61)&&decide (c.toNat≠38)&&decide (c.toNat≠124)
def Stop (r:z0e):Prop:=∀ c r',r=c :: r'->za4 c=true
def Sc (l:z0e):Prop:=∀ r line,Stop r->∃ toks n,scan line (l++r)=ext toks (scan n r)
def Sa (l:z0e):Prop:=∀ r line,∃ toks n,scan line (l++r)=ext toks (scan n r)
theorem Sa.sc {l:z0e} (h:Sa l):Sc l:=fun r line _=>h r line
theorem Sc.nil:Sc []:=fun r line _=>⟨[],line,by rw [z3k]; rfl⟩
theorem Sa.nil:Sa []:=fun r line=>⟨[],line,by rw [z3k]; rfl⟩
theorem Sa.append {a b:z0e} (ha:Sa a) (hb:Sa b):Sa (a++b):=fun r line=>by
 obtain ⟨t1,n1,e1⟩:=ha (b++r) line;obtain ⟨t2,n2,e2⟩:=hb r n1;exact ⟨t1++t2,n2,by rw [List.append_assoc,e1,e2,z3W]⟩
theorem Sa.then {a b:z0e} (ha:Sa a) (hb:Sc b):Sc (a++b):=fun r line hr=>by
 obtain ⟨t1,n1,e1⟩:=ha (b++r) line;obtain ⟨t2,n2,e2⟩:=hb r n1 hr;exact ⟨t1++t2,n2,by rw [List.append_assoc,e1,e2,z3W]⟩
def St0 (l:z0e):Bool:=match l with | []=>false | c :: _=>za4 c
theorem za5 {l r:z0e} (h:St0 l=true):Stop (l++r):=by
 cases l with
 | nil=>cases h
 | cons a l=>intro c r' e; injection e with e; subst e; exact h
theorem Sc.append {a b:z0e} (ha:Sc a) (h0:St0 b=true) (hb:Sa b):Sa (a++b):=fun r line=>by
 obtain ⟨t1,n1,e1⟩:=ha (b++r) line (za5 h0);obtain ⟨t2,n2,e2⟩:=hb r n1;exact ⟨t1++t2,n2,by rw [List.append_assoc,e1,e2,z3W]⟩
theorem Sc.then {a b:z0e} (ha:Sc a) (h0:St0 b=true) (hb:Sc b):Sc (a++b):=fun r line hr=>by
 obtain ⟨t1,n1,e1⟩:=ha (b++r) line (za5 h0);obtain ⟨t2,n2,e2⟩:=hb r n1 hr;exact ⟨t1++t2,n2,by rw [List.append_assoc,e1,e2,z3W]⟩
theorem z7m {c:UInt8} (h:Gap c):Sa [c]:=fun r line=>by
 rcases h with h | h | h
 ·exact ⟨[],line,by rw [List.singleton_append,scan,if_neg (by omega),if_pos (.inl h),z3k]⟩
 ·exact ⟨[],line,by rw [List.singleton_append,scan,if_neg (by omega),if_pos (.inr h),z3k]⟩
 ·exact ⟨[],line+1,by rw [List.singleton_append,scan,if_pos h,z3k]⟩
theorem z7n {c:UInt8} {l r:z0e} {k v line:Nat} (h10:c.toNat≠10) (h32:¬(c.toNat=32\/c.toNat=9)) (h35:c.toNat≠35) (hp:plen (c :: l++r)=(c :: l).length) (hm:pmean (c :: l)=some (k,v)):scan line (c :: l++r)=ext [⟨k,line,v,c :: l⟩] (scan line r):=by
 have hn:rnext (c :: l++r)=some (k,v,(c :: l).length):=by rw [z5c,hp,List.take_left',hm]; rfl; rfl
 rw [List.cons_append] at hn ⊢;rw [scan,if_neg h10,if_neg h32,if_neg h35,hn];simp only [List.length_cons,Nat.add_sub_cancel,List.drop_left,List.take_succ_cons,List.take_left];cases scan line r <;> rfl
theorem zbe {c:UInt8} (h:(letter c||digit c)=false) (h10:c.toNat≠10) (h32:¬(c.toNat=32\/c.toNat=9)) (h35:c.toNat≠35) (h1:isS [c]=true) (h2:∀ x,isS [c,x]=false):Sa [c]:=fun r line=>by
 refine ⟨_,line,z7n (k:=4) (v:=0) (l:=[]) h10 h32 h35 ?_ (by simp [pmean,h1])⟩;cases r with
 | nil=>simp [plen,h,h1]
 | cons x r'=>simp [plen,h,h1,h2]
theorem z6Y (n:Nat):(UInt8.ofNat (48+n % 10)).toNat=48+n % 10:=by simp; omega
theorem z6w (n:Nat):∀ c∈numL n,digit c=true:=by
 induction n using Nat.strongRecOn with
 | ind n ih =>
  intro c hc;rw [numL] at hc;split at hc
  ·rename_i h10;have hd:=z6Y n;rw [Nat.mod_eq_of_lt h10] at hd;simp only [List.mem_singleton] at hc;subst hc;simp only [digit,hd,Bool.and_eq_true,decide_eq_true_eq];omega
  ·rcases q_8.1 hc with hc | hc
   ·exact ih (n / 10) (by omega) c hc
   ·simp only [List.mem_singleton] at hc;subst hc;simp only [digit,z6Y,Bool.and_eq_true,decide_eq_true_eq];omega
theorem zeW {c:UInt8} (h:(letter c||digit c)=false) (h10:c.toNat≠10) (h32:¬(c.toNat=32\/c.toNat=9)) (h35:c.toNat≠35) (h1:isS [c]=true) (h2:∀ x,za4 x=true->isS [c,x]=false):Sc [c]:=fun r line hr=>by
 refine ⟨_,line,z7n (k:=4) (v:=0) (l:=[]) h10 h32 h35 ?_ (by simp [pmean,h1])⟩;cases r with
 | nil=>simp [plen,h,h1]
 | cons x r'=>simp [plen,h,h1,h2 x (hr x r' rfl)]
theorem z98 {c x:UInt8} (h:isS [c,x]=true):(c=60/\x=61)\/(c=61/\x=61)\/(c=33/\x=61)\/(c=38/\x=38)\/(c=124/\x=124):=by
 simp only [isS,z5X,List.contains_iff_mem] at h;simpa using h
theorem zbm {c x:UInt8} (h:za4 x=true):isS [c,x]=false:=by
 cases e:isS [c,x] with
 | false=>rfl
 | true =>
  simp only [za4,Bool.and_eq_true,decide_eq_true_eq] at h;rcases z98 e with ⟨_,e⟩ | ⟨_,e⟩ | ⟨_,e⟩ | ⟨_,e⟩ | ⟨_,e⟩ <;> subst e <;> simp at h
theorem sc1 {c:UInt8} (h:(letter c||digit c)=false) (h10:c.toNat≠10) (h32:¬(c.toNat=32\/c.toNat=9)) (h35:c.toNat≠35) (h1:isS [c]=true):Sc [c]:=zeW h h10 h32 h35 h1 fun _ hx=>zbm hx
theorem sa1 {c:UInt8} (h:(letter c||digit c)=false) (h10:c.toNat≠10) (h32:¬(c.toNat=32\/c.toNat=9)) (h35:c.toNat≠35) (h1:isS [c]=true) (h2:c≠60/\c≠61/\c≠33/\c≠38/\c≠124):Sa [c]:=zbe h h10 h32 h35 h1 fun x=>by
 cases e:isS [c,x] with
 | false=>rfl
 | true=>rcases z98 e with ⟨e,_⟩ | ⟨e,_⟩ | ⟨e,_⟩ | ⟨e,_⟩ | ⟨e,_⟩ <;> subst e <;> simp at h2
theorem sp:Sa [32]:=z7m (.inl rfl)
theorem nl:Sa [10]:=z7m (.inr (.inr rfl))
theorem lp:Sa [40]:=sa1 (by decide) (by decide) (by decide) (by decide) (by decide) (by decide)
theorem lb':Sa [91]:=sa1 (by decide) (by decide) (by decide) (by decide) (by decide) (by decide)
theorem lc:Sa [123]:=sa1 (by decide) (by decide) (by decide) (by decide) (by decide) (by decide)
theorem eqs:Sa [32,61,32]:=sp.append ((sc1 (c:=61) (by decide) (by decide) (by decide) (by decide) (by decide)).append (b:=[32]) (by decide) sp)
def GG (x:Zb × Int):Prop:=z0B x.1/\0<=x.2/\x.2<=100
def GF (d:Nat) (f:Fn):Prop:=z0B f.name/\f.params.length<=2/\(∀ p∈f.params,z0B p)/\(∀ t∈f.body,GSt (d+1) t)/\(f.body.map (cntS (d+1))).sum<=77
def gapB (c:UInt8):Bool:=decide (c.toNat=32)||decide (c.toNat=9)||decide (c.toNat=10)
def tkn (p:Bool):z0e->Nat
 | []=>0
 | c :: r=>(if gapB c||(p&&wordy c) then 0 else 1)+tkn (wordy c) r
def V (l:z0e):Nat:=l.length+20 * tkn false l
theorem zaN:(Tryz.prog.info? 68).map (fun i=>(i.zero,i.size,i.bytes))=some (some (.agg #[.string ⟨#[]⟩,.int .i64 0]),2,24):=by kernel_rfl
structure Chg2 (m g:Nat) (w w':World):Prop where
 os:w'.os=w.os
 tape:w'.tape=w.tape
 output:w'.output=w.output
 size:w.heap.size<=w'.heap.size
 block:∀ k,k<w.heap.size->k≠m->k≠g->w'.heap[k]?=w.heap[k]?
theorem Chg2.refl (m g:Nat) (w:World):Chg2 m g w w:=⟨rfl,rfl,rfl,q_2 _,fun _ _ _ _=>rfl⟩
theorem Chg2.trans {m g:Nat} {a b c:World} (h:Chg2 m g a b) (k:Chg2 m g b c):Chg2 m g a c :=
 ⟨k.os.trans h.os,k.tape.trans h.tape,k.output.trans h.output,q_9 h.size k.size,fun i hi h1 h2=>(k.block i (q_1 hi h.size) h1 h2).trans (h.block i hi h1 h2)⟩
theorem Chg2.far {m g:Nat} {w0 w w':World} {row:Option Nat} (h:Chg2 m g w0 w) (hg:w.grownBy w' row) (hr:∀ b,row=some b->b=m\/b=g\/w0.heap.size<=b):Chg2 m g w0 w' :=
 ⟨hg.os.trans h.os,hg.tape.trans h.tape,hg.output.trans h.output,q_9 h.size hg.size,fun k hk h1 h2=>(hg.block k (q_1 hk h.size) (fun e=>by
  rcases hr k e.symm with e | e | e
  ·exact h1 e
  ·exact h2 e
  ·omega)).trans (h.block k hk h1 h2)⟩
structure SrcG (W0:World) (m g:Nat) (l:List Nat) (vf:Value) (gl:List (Zb × Int)) (vg:Value) (wr:World):Prop where
 row:wr.heap[m]?=some (.cells #[.pointer (some ⟨g,0,none⟩),vg,vf,.slice none 0 0,.int .i64 0] 94 (0,0))
 co:∃ k,z0A wr g l k
 own:wr.ownsRow W0.heap.size 68 2 vg gl.length (gl.flatMap fun x=>[.string x.1,.int .i64 x.2])
 chg:Chg2 m g W0 wr
 mW:m<W0.heap.size
 gm:g<m
theorem SrcG.below {W0 w w':World} {m g:Nat} {l:List Nat} {vf vg:Value} {gl:List (Zb × Int)} (h:SrcG W0 m g l vf gl vg w) (hb:Below w.heap.size w w'):SrcG W0 m g l vf gl vg w':=by
 have:=h.chg.size;have:=h.mW;exact ⟨(hb.block m (by omega)).trans h.row,by obtain ⟨k,hk⟩:=h.co; exact ⟨k,z0C hk hb⟩,z0J h.own (fun b hb'=>hb.block b (h.own.lt b hb').2),h.chg.far (z02 hb none) (fun b e=>by cases e),h.mW,h.gm⟩
theorem SrcG.grown {W0 w w':World} {m g:Nat} {l:List Nat} {vf vg:Value} {gl:List (Zb × Int)} (h:SrcG W0 m g l vf gl vg w) (hc:∃ k,z0A w' g l k) (hg:w.grownBy w' (some g)):SrcG W0 m g l vf gl vg w':=by
 have:=h.chg.size;have:=h.mW;have:=h.gm;exact ⟨z04 hg (by omega) h.row,hc,z0J h.own (fun b hb'=>hg.block b (h.own.lt b hb').2 (fun e=>absurd (show b=g by injection e) (by have:=(h.own.lt b hb').1; omega))),h.chg.far hg (fun b e=>by injection e with e; exact .inr (.inl e.symm)),h.mW,h.gm⟩
def NxG (W0:World) (m g:Nat) (l:List Nat) (vf:Value) (gl:List (Zb × Int)) (vg:Value) (n:Nat) (w:World) (e:Ending) (w':World):Prop :=
 ∃ r:Nat,e=.returned (.int .i64 (r:Int))/\(1<=n->r<n)/\SrcG W0 m g l vf gl vg w'/\w.grownBy w' (some g)
theorem z4f {W0 w:World} {m g:Nat} {l:List Nat} {vf vg:Value} {gl:List (Zb × Int)} (h:SrcG W0 m g l vf gl vg w) (hlen:l.length<=1000000) (hl:∀ x∈l,x<256) (n:Nat) (z:Int) (hz:z=(n:Int)) (hn:n<=1000000000) :
  Calls Tryz.prog 15 #[.pointer (some ⟨g,0,none⟩),.int .i64 z] w (NxG W0 m g l vf gl vg n w):=by
 subst hz;obtain ⟨k,hk⟩:=h.co;exact (z25 g l k n w hk hn hlen hl).mono fun e w' ⟨r,k',h1,h2,_,h4,h5⟩=>⟨r,h1,fun hh=>by have:=h2 (by omega); omega,h.grown ⟨k',h4⟩ h5,h5⟩
theorem SrcG.push {W0 w wa wx:World} {m g g' cap:Nat} {l:List Nat} {vf vg:Value} {gl:List (Zb × Int)} {s:Zb} {z:Int} (h:SrcG W0 m g l vf gl vg w) (ha:Below w.heap.size w wa)
  (hown:wx.ownsRow W0.heap.size 68 2 (.slice (some ⟨g',0,none⟩) (gl.length+1) cap) (gl.length+1) ((gl.flatMap fun x=>[.string x.1,.int .i64 x.2])++[.string s,.int .i64 z])) (hg:wa.grownBy wx vg.ownBlock) :
  SrcG W0 m g l vf (gl++[(s,z)]) (.slice (some ⟨g',0,none⟩) (gl.length+1) cap) (wx.setCell ⟨m,1,none⟩ (.slice (some ⟨g',0,none⟩) (gl.length+1) cap))/\wx.cell? ⟨m,1,none⟩=some vg/\wx.frozen? ⟨m,1,none⟩=false:=by
 have h1:=h.chg.size;have h2:=h.mW;have h3:=h.gm;have hsa:=ha.size;have hge:∀ b,vg.ownBlock=some b->W0.heap.size<=b:=fun b hb=>(h.own.lt b hb).1
 have hbw:Below W0.heap.size w wx:=(ha.mono h1).trans (z05 hg hge (by omega));have hrow:wx.heap[m]?=_:=(hbw.block m h2).trans h.row;have hsg:=z03 wx ⟨m,1,none⟩ (.slice (some ⟨g',0,none⟩) (gl.length+1) cap);refine ⟨⟨z0a _ hrow,?_,?_,?_,h2,h3⟩,zcr 1 hrow,z06 hrow 1⟩
 ·obtain ⟨k,hk⟩:=h.co;exact ⟨k,z0v (z1i hk hbw (by omega)) hsg h3⟩
 ·rw [List.length_append,List.flatMap_append];simp only [List.length_cons,List.length_nil,List.flatMap_cons,List.flatMap_nil,List.append_nil];exact z0J hown (fun b hb=>hsg.block b (hown.lt b hb).2 (fun e=>by
   have e2:b=m:=by injection e
   have:=(hown.lt b hb).1;omega))
 ·exact ((h.chg.far (z02 ha none) (fun b e=>by cases e)).far hg (fun b e=>.inr (.inr (hge b e)))).far hsg (fun b e=>by injection e with e; exact .inl e.symm)
theorem z2P {ops:Array Oper} {o:Oper} {a:Act} {K:Act->World->Prop} {Q:Exit->Act->World->Prop} {E:Prop} {W0 w0:World} {m g:Nat} {l:List Nat} {vf:Value} {gA:Option Addr} {gc:Nat} {gl:List (Zb × Int)} (w:World) (hgd:o.guard=none) (sl x:Operand)
  (ho:o.op=.call { callee:=.builtin .append,args:=#[sl,x],argTypes:=#[28,28] }) (n:Nat) (hn:n=gl.length) (s:Zb) (z:Int)
  (hs:a.eval sl=.slice gA n gc) (hx:a.eval x=.slice (some ⟨w.heap.size,0,none⟩) 1 1) (h:SrcG W0 m g l vf gl (.slice gA n gc) w0) (hb:Below w0.heap.size w0 w) (hlen:n<=1000)
  (hk:∀ g' cap wx,SrcG W0 m g l vf (gl++[(s,z)]) (.slice (some ⟨g',0,none⟩) (n+1) cap) (wx.setCell ⟨m,1,none⟩ (.slice (some ⟨g',0,none⟩) (n+1) cap))->wx.cell? ⟨m,1,none⟩=some (.slice gA n gc)->wx.frozen? ⟨m,1,none⟩=false->K (a.put o.dst (.slice (some ⟨g',0,none⟩) (n+1) cap)) wx) :
  if Region.wanted o (yielded ops a.tmps)=true then Oper.wp Tryz.prog o a (w.alloc (.cells #[.string s,.int .i64 z] 68)) K Q else E:=by
 subst hn;obtain ⟨i,hi,hz,hsz,hby⟩:=info_parts zaN;have hh:=h.below hb;have h1:=hh.chg.size;refine step_append_lies _ hgd sl x _ ho W0.heap.size 68 i _ 2 24 Tryz.underlying28 hi hz hsz hby rfl (by decide) _ gl.length _ hs (hh.own.alloc _) ⟨w.heap.size,0,none⟩ 1 1 [.string s,.int .i64 z] hx (by simp) ?_ ?_ (by decide) (by unfold maxLen; omega) (by omega) (by simp; omega) _ rfl fun g' cap wx k1 k2 _ _=>?_
 ·intro j u hu;rw [Addr.add_lit,Nat.zero_add];exact (zcr _ (q_4 w _)).trans (by simpa using hu)
 ·intro u hu;simp at hu;rcases hu with rfl | rfl <;> rfl
 ·obtain ⟨p1,p2,p3⟩:=hh.push ((q_i _ w).alloc (q_2 _) _) k1 k2;exact hk g' cap wx p1 p2 p3
theorem zaM:(Tryz.prog.info? 83).map (fun i=>(i.zero,i.size,i.bytes))=some (some (.agg #[.string ⟨#[]⟩,.int .i64 0,.slice none 0 0,.slice none 0 0]),4,72):=by kernel_rfl
structure z24 (m base:Nat) (w:World) (vf:Value) (fl:List (Zb × List Zb)) (L:List Value):Prop where
 own:w.ownsRow base 83 4 vf fl.length L
 at_:∀ i f,fl[i]?=some f->∃ pA pc,L[i * 4]?=some (.string f.1)/\L[i * 4+1]?=some (.int .i64 0)/\L[i * 4+2]?=some (.slice pA f.2.length pc)/\L[i * 4+3]?=some (.slice none 0 0)/\z0l (fun b=>base<=b/\b<w.heap.size/\vf.ownBlock≠some b/\b≠m) w f.2 pA pc
theorem z0l.keep {F G:Nat->Prop} {w w':World} {l:List Zb} {A:Option Addr} {c:Nat} (h:z0l F w l A c) (hFG:∀ b,F b->G b) (hk:∀ b,F b->w'.heap[b]?=w.heap[b]?):z0l G w' l A c :=
 ⟨h.1,fun i x hi=>by
  obtain ⟨r,hA,hr,e0⟩:=h.2 i x hi;exact ⟨r,hA,hFG r hr,(q_6 (hk r hr)).trans e0⟩⟩
theorem z24.keep {m base:Nat} {w w':World} {vf:Value} {fl:List (Zb × List Zb)} {L:List Value} (h:z24 m base w vf fl L) (hs:w.heap.size<=w'.heap.size) (hk:∀ b,base<=b->b<w.heap.size->b≠m->w'.heap[b]?=w.heap[b]?) (hm:m<base):z24 m base w' vf fl L :=
 ⟨z0J h.own (fun b hb=>hk b (h.own.lt b hb).1 (h.own.lt b hb).2 (by have:=(h.own.lt b hb).1; omega)),fun i f hi=>by
  obtain ⟨pA,pc,e0,e1,e2,e3,hp⟩:=h.at_ i f hi;exact ⟨pA,pc,e0,e1,e2,e3,hp.keep (fun b hb=>⟨hb.1,q_1 hb.2.1 hs,hb.2.2⟩) (fun b hb=>hk b hb.1 hb.2.1 hb.2.2.2)⟩⟩
theorem z24.below {m base:Nat} {w w':World} {vf:Value} {fl:List (Zb × List Zb)} {L:List Value} (h:z24 m base w vf fl L) (hb:Below w.heap.size w w') (hm:m<base):z24 m base w' vf fl L :=
 h.keep hb.size (fun b _ h2 _=>hb.block b h2) hm
theorem z24.grown {m g base:Nat} {w w':World} {vf:Value} {fl:List (Zb × List Zb)} {L:List Value} (h:z24 m base w vf fl L) (hg:w.grownBy w' (some g)) (hm:m<base) (hgb:g<base):z24 m base w' vf fl L :=
 h.keep hg.size (fun b h1 h2 _=>hg.block b h2 (fun e=>absurd (show b=g by injection e) (by omega))) hm
theorem z24.set {m base i:Nat} {w:World} {v vf:Value} {fl:List (Zb × List Zb)} {L:List Value} (h:z24 m base w vf fl L) (hm:m<base):z24 m base (w.setCell ⟨m,i,none⟩ v) vf fl L :=
 have hg:=z03 w ⟨m,i,none⟩ v
 h.keep hg.size (fun b _ h2 h3=>hg.block b h2 (fun e=>h3 (by injection e))) hm
theorem z24.push {m base g' cap:Nat} {w wa w':World} {vf:Value} {fl:List (Zb × List Zb)} {L:List Value} {f:Zb × List Zb} {pA:Option Addr} {pc:Nat} (h:z24 m base w vf fl L) (hf:z0l (fun b=>base<=b/\b<w.heap.size/\vf.ownBlock≠some b/\b≠m) w f.2 pA pc)
  (hown:w'.ownsRow base 83 4 (.slice (some ⟨g',0,none⟩) (fl.length+1) cap) (fl.length+1) (L++[.string f.1,.int .i64 0,.slice pA f.2.length pc,.slice none 0 0])) (ha:Below w.heap.size w wa) (hg:wa.grownBy w' vf.ownBlock) (hat:vf.ownBlock=some g'\/g'=wa.heap.size) :
  z24 m base w' (.slice (some ⟨g',0,none⟩) (fl.length+1) cap) (fl++[f]) (L++[.string f.1,.int .i64 0,.slice pA f.2.length pc,.slice none 0 0]):=by
 have hL:L.length=fl.length * 4:=h.own.1;have has:=ha.size;have hgb:=(hown.lt g' rfl).1;have step:∀ {l:List Zb} {A:Option Addr} {c:Nat},z0l (fun b=>base<=b/\b<w.heap.size/\vf.ownBlock≠some b/\b≠m) w l A c->z0l (fun b=>base<=b/\b<w'.heap.size/\(Value.slice (some ⟨g',0,none⟩) (fl.length+1) cap).ownBlock≠some b/\b≠m) w' l A c:=fun hy=>hy.keep (fun b hb=>by
   obtain ⟨h1,h2,h3,h4⟩:=hb;refine ⟨h1,q_1 h2 (q_9 ha.size hg.size),?_,h4⟩;intro e;have e2:g'=b:=by simpa [Value.ownBlock] using e
   subst e2;rcases hat with hh | hh
   ·exact h3 hh
   ·omega) (fun b hb=>(hg.block b (q_1 hb.2.1 ha.size) (fun e=>hb.2.2.1 e.symm)).trans (ha.block b hb.2.1))
 refine ⟨by simpa using hown,fun j y hj=>?_⟩;rcases q_f j fl.length with hlt | hge
 ·rw [List.getElem?_append_left hlt] at hj;obtain ⟨qA,qc,e0,e1,e2,e3,hy⟩:=h.at_ j y hj;have hl:∀ k u,L[k]?=some u->(L++[Value.string f.1,.int .i64 0,.slice pA f.2.length pc,.slice none 0 0])[k]?=some u:=fun k u hk=>by
   have hk2:k<L.length:=by
    rcases q_f k L.length with h' | h'
    ·exact h'
    ·rw [q_j h'] at hk; cases hk
   rw [List.getElem?_append_left hk2]; exact hk
  exact ⟨qA,qc,hl _ _ e0,hl _ _ e1,hl _ _ e2,hl _ _ e3,step hy⟩
 ·have hjx:j=fl.length:=by
   rcases q_f fl.length j with h' | h'
   ·rw [q_j (by simp; omega)] at hj; cases hj
   ·omega
  subst hjx;simp at hj;subst hj;have hr:∀ k,(L++[Value.string f.1,.int .i64 0,.slice pA f.2.length pc,.slice none 0 0])[fl.length * 4+k]?=[Value.string f.1,.int .i64 0,.slice pA f.2.length pc,.slice none 0 0][k]?:=fun k=>by
   rw [List.getElem?_append_right (by omega)]
   congr 1
   omega
  exact ⟨pA,pc,hr 0,hr 1,hr 2,hr 3,step hf⟩
theorem z24.funs {m base:Nat} {w:World} {A:Option Addr} {n c:Nat} {fl:List (Zb × List Zb)} {L:List Value} (h:z24 m base w (.slice A n c) fl L):n=fl.length/\z1z (fun b=>base<=b/\b<w.heap.size) w fl A c:=by
 rcases h.own.2 with ⟨e,h0⟩ | ⟨g',cap,cur,e,hb,hh,hc,_⟩
 ·injection e with e1 e2 e3;subst e1 e2 e3;exact ⟨h0.symm,by rw [h0]; exact q_2 _,fun i x hi=>by rw [q_g h0] at hi; simp at hi⟩
 ·injection e with e1 e2 e3;subst e1 e2 e3;refine ⟨rfl,hc,fun i f hi=>?_⟩;obtain ⟨pA,pc,e0,e1,e2,e3,_⟩:=h.at_ i f hi;have hcell:∀ k u,L[k]?=some u->w.cell? ⟨g',k,none⟩=some u:=fun k u hk=>by
   have hk2:k<L.length:=by
    rcases q_f k L.length with h' | h'
    ·exact h'
    ·rw [q_j h'] at hk; cases hk
   exact (h.own.cellAt k (by have:=h.own.1; omega)).trans hk
  exact ⟨g',pA,pc,none,0,0,0,rfl,⟨hb,(q_0.1 hh).1⟩,hcell _ _ e0,hcell _ _ e1,hcell _ _ e2,hcell _ _ e3⟩
def z1I:Zb:=⟨#[109,97,105,110]⟩
theorem zbk {W0 w:World} {m g:Nat} {l:List Nat} {vg:Value} {gl:List (Zb × Int)} (h:SrcG W0 m g l (.slice none 0 0) gl vg w) :
  SrcG W0 m g l (.slice (some ⟨w.heap.size,0,none⟩) 1 1) gl vg ((w.alloc (.cells #[.string ⟨#[109,97,105,110]⟩,.int .i64 0,.slice none 0 0,.slice none 0 0] 83)).setCell ⟨m,2,none⟩ (.slice (some ⟨w.heap.size,0,none⟩) 1 1)) /\
  z24 m W0.heap.size ((w.alloc (.cells #[.string ⟨#[109,97,105,110]⟩,.int .i64 0,.slice none 0 0,.slice none 0 0] 83)).setCell ⟨m,2,none⟩ (.slice (some ⟨w.heap.size,0,none⟩) 1 1)) (.slice (some ⟨w.heap.size,0,none⟩) 1 1) [(z1I,[])] [.string z1I,.int .i64 0,.slice none 0 0,.slice none 0 0]:=by
 have h1:=h.chg.size;have h2:=h.mW;have h3:=h.gm;have hb:=(q_i _ w).alloc (q_2 _) (.cells #[.string ⟨#[109,97,105,110]⟩,.int .i64 0,.slice none 0 0,.slice none 0 0] 83);have ha:=h.below hb;have hsg:=z03 (w.alloc (.cells #[.string ⟨#[109,97,105,110]⟩,.int .i64 0,.slice none 0 0,.slice none 0 0] 83)) ⟨m,2,none⟩ (.slice (some ⟨w.heap.size,0,none⟩) 1 1);have hne:∀ b,W0.heap.size<=b->some b≠some m:=fun b hb e=>by injection e with e; omega
 have hf:z24 m W0.heap.size (w.alloc (.cells #[.string ⟨#[109,97,105,110]⟩,.int .i64 0,.slice none 0 0,.slice none 0 0] 83)) (.slice (some ⟨w.heap.size,0,none⟩) 1 1) [(z1I,[])] [.string z1I,.int .i64 0,.slice none 0 0,.slice none 0 0] :=
  ⟨World.ownsRow_lit w #[.string ⟨#[109,97,105,110]⟩,.int .i64 0,.slice none 0 0,.slice none 0 0] 1 h1 (by unfold maxLen; omega) rfl,fun i f hi=>by
   match i,hi with
   | 0,hi =>
    injection hi with hi;subst hi;exact ⟨none,0,rfl,rfl,rfl,rfl,q_2 _,fun i x hx=>by simp at hx⟩
   | i+1,hi=>simp at hi⟩
 refine ⟨⟨z0a _ ha.row,?_,z0J ha.own (fun b hb'=>hsg.block b (ha.own.lt b hb').2 (fun e=>hne b (ha.own.lt b hb').1 e)),ha.chg.far hsg (fun b e=>by injection e with e; exact .inl e.symm),h2,h3⟩,hf.set h2⟩;obtain ⟨k,hk⟩:=ha.co;exact ⟨k,z0v hk hsg h3⟩
structure SrcF (W0:World) (m g:Nat) (l:List Nat) (gl:List (Zb × Int)) (vg:Value) (fl:List (Zb × List Zb)) (L:List Value) (vf:Value) (wr:World):Prop where
 gs:SrcG W0 m g l vf gl vg wr
 fn:z24 m W0.heap.size wr vf fl L
 sep:∀ b,vf.ownBlock=some b->vg.ownBlock≠some b
theorem SrcF.below {W0 w w':World} {m g:Nat} {l:List Nat} {gl:List (Zb × Int)} {vg vf:Value} {fl:List (Zb × List Zb)} {L:List Value} (h:SrcF W0 m g l gl vg fl L vf w) (hb:Below w.heap.size w w'):SrcF W0 m g l gl vg fl L vf w' :=
 ⟨h.gs.below hb,h.fn.below hb h.gs.mW,h.sep⟩
theorem SrcF.grown {W0 w w':World} {m g:Nat} {l:List Nat} {gl:List (Zb × Int)} {vg vf:Value} {fl:List (Zb × List Zb)} {L:List Value} (h:SrcF W0 m g l gl vg fl L vf w) (hc:∃ k,z0A w' g l k) (hg:w.grownBy w' (some g)):SrcF W0 m g l gl vg fl L vf w' :=
 ⟨h.gs.grown hc hg,h.fn.grown hg h.gs.mW (Nat.lt_trans h.gs.gm h.gs.mW),h.sep⟩
theorem SrcF.push {W0 w wa wx:World} {m g g' cap:Nat} {l:List Nat} {gl:List (Zb × Int)} {vg vf:Value} {fl:List (Zb × List Zb)} {L:List Value} {f:Zb × List Zb} {pA:Option Addr} {pc:Nat} (h:SrcF W0 m g l gl vg fl L vf w) (hf:z0l (fun b=>W0.heap.size<=b/\b<w.heap.size/\vf.ownBlock≠some b/\b≠m) w f.2 pA pc)
  (hown:wx.ownsRow W0.heap.size 83 4 (.slice (some ⟨g',0,none⟩) (fl.length+1) cap) (fl.length+1) (L++[.string f.1,.int .i64 0,.slice pA f.2.length pc,.slice none 0 0])) (ha:Below w.heap.size w wa) (hg:wa.grownBy wx vf.ownBlock) (hat:vf.ownBlock=some g'\/g'=wa.heap.size) :
  SrcF W0 m g l gl vg (fl++[f]) (L++[.string f.1,.int .i64 0,.slice pA f.2.length pc,.slice none 0 0]) (.slice (some ⟨g',0,none⟩) (fl.length+1) cap) (wx.setCell ⟨m,2,none⟩ (.slice (some ⟨g',0,none⟩) (fl.length+1) cap))/\wx.cell? ⟨m,2,none⟩=some vf/\wx.frozen? ⟨m,2,none⟩=false:=by
 have h1:=h.gs.chg.size;have h2:=h.gs.mW;have h3:=h.gs.gm;have hsa:=ha.size;have hge:∀ b,vf.ownBlock=some b->W0.heap.size<=b:=fun b hb=>(h.fn.own.lt b hb).1
 have hbw:Below W0.heap.size w wx:=(ha.mono h1).trans (z05 hg hge (by omega));have hrow:wx.heap[m]?=_:=(hbw.block m h2).trans h.gs.row;have hsg:=z03 wx ⟨m,2,none⟩ (.slice (some ⟨g',0,none⟩) (fl.length+1) cap);have hne:∀ b,W0.heap.size<=b->some b≠some m:=fun b hb e=>by injection e with e; omega
 have hgo:=h.gs.own;have hvg:wx.ownsRow W0.heap.size 68 2 vg gl.length (gl.flatMap fun x=>[.string x.1,.int .i64 x.2]):=z0J hgo (fun b hb=>(hg.block b (q_1 (hgo.lt b hb).2 hsa) (fun e=>h.sep b e.symm hb)).trans (ha.block b (hgo.lt b hb).2));refine ⟨⟨⟨z0a _ hrow,?_,z0J hvg (fun b hb=>hsg.block b (hvg.lt b hb).2 (fun e=>hne b (hvg.lt b hb).1 e)),?_,h2,h3⟩,(h.fn.push hf hown ha hg hat).set h2,fun b hb e=>?_⟩,zcr 2 hrow,z06 hrow 2⟩
 ·obtain ⟨k,hk⟩:=h.gs.co;exact ⟨k,z0v (z1i hk hbw (by omega)) hsg h3⟩
 ·exact ((h.gs.chg.far (z02 ha none) (fun b e=>by cases e)).far hg (fun b e=>.inr (.inr (hge b e)))).far hsg (fun b e=>by injection e with e; exact .inl e.symm)
 ·have e2:g'=b:=by simpa [Value.ownBlock] using hb
  subst e2;rcases hat with hh | hh
  ·exact h.sep g' hh e
  ·have:=(hgo.lt g' e).2;omega
theorem z8K:∀ (gl:List (Zb × Int)) (i:Nat) (x:Zb × Int),gl[i]?=some x->(gl.flatMap fun x=>[Value.string x.1,.int .i64 x.2])[i * 2]?=some (.string x.1)/\(gl.flatMap fun x=>[Value.string x.1,.int .i64 x.2])[i * 2+1]?=some (.int .i64 x.2)
 | [],i,x,h=>by simp at h
 | a :: r,0,x,h=>by simp at h; subst h; simp
 | a :: r,i+1,x,h=>by
  simp only [List.getElem?_cons_succ] at h;have ih:=z8K r i x h;simp only [List.flatMap_cons];have e:∀ k,([Value.string a.1,.int .i64 a.2]++r.flatMap fun x=>[Value.string x.1,.int .i64 x.2])[k+2]?=(r.flatMap fun x=>[Value.string x.1,.int .i64 x.2])[k]?:=fun k=>by
   rw [List.getElem?_append_right (by simp)];simp
  rw [show (i+1) * 2=i * 2+2 by omega,show i * 2+2+1=(i * 2+1)+2 by omega,e,e];exact ih
theorem SrcG.globs {W0 w:World} {m g n c:Nat} {l:List Nat} {vf:Value} {A:Option Addr} {gl:List (Zb × Int)} (h:SrcG W0 m g l vf gl (.slice A n c) w):n=gl.length/\z0k (fun b=>W0.heap.size<=b/\b<w.heap.size) w gl A c:=by
 have ho:=h.own;rcases ho.2 with ⟨e,h0⟩ | ⟨g',cap,cur,e,hb,hh,hc,_⟩
 ·injection e with e1 e2 e3;subst e1 e2 e3;exact ⟨h0.symm,by rw [h0]; exact q_2 _,fun i x hi=>by rw [q_g h0] at hi; simp at hi⟩
 ·injection e with e1 e2 e3;subst e1 e2 e3;refine ⟨rfl,hc,fun i x hi=>?_⟩;obtain ⟨e0,e1⟩:=z8K gl i x hi;have hcell:∀ k u,(gl.flatMap fun x=>[Value.string x.1,.int .i64 x.2])[k]?=some u->w.cell? ⟨g',k,none⟩=some u:=fun k u hk=>by
   have hk2:k<(gl.flatMap fun x=>[Value.string x.1,.int .i64 x.2]).length:=by
    rcases q_f k (gl.flatMap fun x=>[Value.string x.1,.int .i64 x.2]).length with h' | h'
    ·exact h'
    ·rw [q_j h'] at hk; cases hk
   exact (ho.cellAt k (by have:=ho.1; omega)).trans hk
  exact ⟨g',rfl,⟨hb,(q_0.1 hh).1⟩,hcell _ _ e0,hcell _ _ e1⟩
theorem z0k.imp {F G:Nat->Prop} {w:World} {gl:List (Zb × Int)} {A:Option Addr} {c:Nat} (h:z0k F w gl A c) (hFG:∀ b,F b->G b):z0k G w gl A c :=
 ⟨h.1,fun i x hi=>by
  obtain ⟨r,hA,hr,e0,e1⟩:=h.2 i x hi;exact ⟨r,hA,hFG r hr,e0,e1⟩⟩
theorem z1z.imp {F G:Nat->Prop} {w:World} {fl:List (Zb × List Zb)} {A:Option Addr} {c:Nat} (h:z1z F w fl A c) (hFG:∀ b,F b->G b):z1z G w fl A c :=
 ⟨h.1,fun i x hi=>by
  obtain ⟨r,pA,pc,bA,bn,bc,ln,hA,hr,rest⟩:=h.2 i x hi;exact ⟨r,pA,pc,bA,bn,bc,ln,hA,hFG r hr,rest⟩⟩
theorem z7y {F:Nat->Prop} {w:World} {base:Nat} {A:Option Addr} {n c:Nat} {xs:List Zb} (h:w.ownsRow base 9 1 (.slice A n c) xs.length (strV xs)) (hF:∀ b,base<=b->b<w.heap.size->F b):n=xs.length/\z0l F w xs A c:=by
 rcases h.2 with ⟨e,h0⟩ | ⟨g',cap,cur,e,hb,hh,hc,_⟩
 ·injection e with e1 e2 e3;subst e1 e2 e3;exact ⟨h0.symm,by rw [h0]; exact q_2 _,fun i x hi=>by rw [q_g h0] at hi; simp at hi⟩
 ·injection e with e1 e2 e3;subst e1 e2 e3;refine ⟨rfl,hc,fun i x hi=>⟨g',rfl,hF g' hb (q_0.1 hh).1,?_⟩⟩;have hi2:i<xs.length:=by
   rcases q_f i xs.length with h' | h'
   ·exact h'
   ·rw [q_j h'] at hi; cases hi
  rw [h.cellAt i (by omega),strV,q_b,hi];rfl
theorem zeQ {w:World} {m g base:Nat} {l:List Nat} {E:Env} {bud:Int} {gA fA lA:Option Addr} {gc fc lc:Nat}
  (hrow:w.heap[m]?=some (.cells #[.pointer (some ⟨g,0,none⟩),.slice gA E.globs.length gc,.slice fA E.funs.length fc,.slice lA E.locals.length lc,.int .i64 bud] 94 (0,0)))
  (hG:z0k (fun b=>m<b/\b<base) w E.globs gA gc) (hF:z1z (fun b=>m<b/\b<base) w E.funs fA fc) (hL:w.ownsRow base 9 1 (.slice lA E.locals.length lc) E.locals.length (strV E.locals)) (hco:∃ k,z0A w g l k) (hlen:l.length<=1000000) (hl:∀ x∈l,x<256) (hm:m<base) (hg:g<m) (hbs:base<=w.heap.size) :
  LS w m g l E bud base :=
 ⟨⟨by omega,⟨gA,gc,fA,fc,lA,lc,hrow,hG.imp (fun b hb=>by omega),hF.imp (fun b hb=>by omega),(z7y hL (fun b hb _=>by omega)).2⟩,hco,hlen,hl⟩,
  ⟨_,by rw [zcr 3 hrow]; rfl,hL⟩,hm,hg,hbs,⟨gA,gc,fA,fc,by rw [zcr 1 hrow]; rfl,by rw [zcr 2 hrow]; rfl,hG.imp (fun b hb=>hb.2),hF.imp (fun b hb=>hb.2)⟩⟩
structure ParS (w5:World) (g q nb:Nat) (l:List Nat) (nm:Zb) (ps:List Zb) (pv:Value) (wr:World):Prop where
 row:wr.heap[q]?=some (.cells #[.string nm,.int .i64 0,pv,.slice none 0 0] 83 (0,0))
 own:wr.ownsRow nb 9 1 pv ps.length (strV ps)
 co:∃ k,z0A wr g l k
 gr:w5.grownBy wr (some g)
 qs:w5.heap.size<=q
 qn:q<nb
 sz:nb<=wr.heap.size
 gq:g<w5.heap.size
theorem ParS.below {w5 w w':World} {g q nb:Nat} {l:List Nat} {nm:Zb} {ps:List Zb} {pv:Value} (h:ParS w5 g q nb l nm ps pv w) (hb:Below w.heap.size w w'):ParS w5 g q nb l nm ps pv w' :=
 ⟨(hb.block q (q_0.1 h.row).1).trans h.row,z0J h.own (fun b hb'=>hb.block b (h.own.lt b hb').2),by obtain ⟨k,hk⟩:=h.co; exact ⟨k,z0C hk hb⟩,h.gr.trans (z02 hb _),h.qs,h.qn,q_9 h.sz hb.size,h.gq⟩
theorem ParS.push {w5 w wa wx:World} {g q nb g' cap:Nat} {l:List Nat} {nm s:Zb} {ps:List Zb} {pv:Value} (h:ParS w5 g q nb l nm ps pv w) (ha:Below w.heap.size w wa)
  (hown:wx.ownsRow nb 9 1 (.slice (some ⟨g',0,none⟩) (ps.length+1) cap) (ps.length+1) (strV ps++[.string s])) (hg:wa.grownBy wx pv.ownBlock) :
  ParS w5 g q nb l nm (ps++[s]) (.slice (some ⟨g',0,none⟩) (ps.length+1) cap) (wx.setCell ⟨q,2,none⟩ (.slice (some ⟨g',0,none⟩) (ps.length+1) cap))/\wx.cell? ⟨q,2,none⟩=some pv/\wx.frozen? ⟨q,2,none⟩=false:=by
 have h1:=h.qs;have h2:=h.qn;have h3:=h.sz;have h4:=h.gq;have hsa:=ha.size;have h5:=h.gr.size;have hbw:Below nb w wx:=(ha.mono h3).trans (z05 hg (fun b hb=>(h.own.lt b hb).1) (by omega));have hrow:wx.heap[q]?=_:=(hbw.block q h2).trans h.row;have hsg:=z03 wx ⟨q,2,none⟩ (.slice (some ⟨g',0,none⟩) (ps.length+1) cap);refine ⟨⟨z0a _ hrow,?_,?_,?_,h1,h2,q_9 h3 (q_9 hbw.size hsg.size),h4⟩,zcr 2 hrow,z06 hrow 2⟩
 ·have hs:strV (ps++[s])=strV ps++[.string s]:=by simp [strV]
  rw [List.length_append,hs];exact z0J hown (fun b hb=>hsg.block b (hown.lt b hb).2 (fun e=>absurd (show b=q by injection e) (by have:=(hown.lt b hb).1; omega)))
 ·obtain ⟨k,hk⟩:=h.co;exact ⟨k,z0v (z1i hk hbw (by omega)) hsg (show g<q by omega)⟩
 ·exact z0r (z1N h.gr hbw (by omega)) hsg h1
theorem z4h {ops:Array Oper} {o:Oper} {a:Act} {K:Act->World->Prop} {Q:Exit->Act->World->Prop} {E:Prop} {w5 w0:World} {g q nb:Nat} {l:List Nat} {nm:Zb} {ps:List Zb} {pA:Option Addr} {pc:Nat} (w:World) (hgd:o.guard=none) (sl x:Operand)
  (ho:o.op=.call { callee:=.builtin .append,args:=#[sl,x],argTypes:=#[80,80] }) (n:Nat) (hn:n=ps.length) (s:Zb)
  (hs:a.eval sl=.slice pA n pc) (hx:a.eval x=.slice (some ⟨w.heap.size,0,none⟩) 1 1) (h:ParS w5 g q nb l nm ps (.slice pA n pc) w0) (hb:Below w0.heap.size w0 w) (hlen:n<=1000)
  (hk:∀ g' cap wx,ParS w5 g q nb l nm (ps++[s]) (.slice (some ⟨g',0,none⟩) (n+1) cap) (wx.setCell ⟨q,2,none⟩ (.slice (some ⟨g',0,none⟩) (n+1) cap))->wx.cell? ⟨q,2,none⟩=some (.slice pA n pc)->wx.frozen? ⟨q,2,none⟩=false->K (a.put o.dst (.slice (some ⟨g',0,none⟩) (n+1) cap)) wx) :
  if Region.wanted o (yielded ops a.tmps)=true then Oper.wp Tryz.prog o a (w.alloc (.cells #[.string s] 9)) K Q else E:=by
 subst hn;obtain ⟨i,hi,hz,hsz,hby⟩:=info_parts z3M;have hh:=h.below hb;have h1:=hh.sz;refine step_append_lies _ hgd sl x _ ho nb 9 i _ 1 16 Tryz.underlying80 hi hz hsz hby rfl (by decide) _ ps.length _ hs (hh.own.alloc _) ⟨w.heap.size,0,none⟩ 1 1 [.string s] hx (by simp) ?_ ?_ (by decide) (by unfold maxLen; omega) (by omega) (by simp; omega) _ rfl fun g' cap wx k1 k2 _ _=>?_
 ·intro j u hu;rw [Addr.add_lit,Nat.zero_add];exact (zcr _ (q_4 w _)).trans (by simpa using hu)
 ·intro u hu;simp at hu;subst hu;rfl
 ·obtain ⟨p1,p2,p3⟩:=hh.push ((q_i _ w).alloc (q_2 _) _) k1 k2;exact hk g' cap wx p1 p2 p3
theorem z4g {ops:Array Oper} {o:Oper} {a:Act} {K:Act->World->Prop} {Q:Exit->Act->World->Prop} {E:Prop} {W0:World} {m g b:Nat} {l:List Nat} {gl:List (Zb × Int)} {vg:Value} {fl:List (Zb × List Zb)} {L:List Value} {fA:Option Addr} {fc:Nat} (w:World) (hgd:o.guard=none) (sl x:Operand)
  (ho:o.op=.call { callee:=.builtin .append,args:=#[sl,x],argTypes:=#[29,29] }) (n:Nat) (hn:n=fl.length) (nm:Zb) (ps:List Zb) (pA:Option Addr) (np pc:Nat) (hp:np=ps.length)
  (hs:a.eval sl=.slice fA n fc) (hx:a.eval x=.slice (some ⟨b,0,none⟩) 1 1) (h:SrcF W0 m g l gl vg fl L (.slice fA n fc) w) (hal:w.heap[b]?=some (.cells #[.string nm,.int .i64 0,.slice pA np pc,.slice none 0 0] 83 (0,0))) (hf:z0l (fun b=>W0.heap.size<=b/\b<w.heap.size/\(Value.slice fA n fc).ownBlock≠some b/\b≠m) w ps pA pc) (hlen:n<=1000)
  (hk:∀ g' cap wx,SrcF W0 m g l gl vg (fl++[(nm,ps)]) (L++[.string nm,.int .i64 0,.slice pA np pc,.slice none 0 0]) (.slice (some ⟨g',0,none⟩) (n+1) cap) (wx.setCell ⟨m,2,none⟩ (.slice (some ⟨g',0,none⟩) (n+1) cap))->wx.cell? ⟨m,2,none⟩=some (.slice fA n fc)->wx.frozen? ⟨m,2,none⟩=false->K (a.put o.dst (.slice (some ⟨g',0,none⟩) (n+1) cap)) wx) :
  if Region.wanted o (yielded ops a.tmps)=true then Oper.wp Tryz.prog o a w K Q else E:=by
 subst hn hp;obtain ⟨i,hi,hz,hsz,hby⟩:=info_parts zaM;have h1:=h.gs.chg.size;refine step_append_lies _ hgd sl x _ ho W0.heap.size 83 i _ 4 72 Tryz.underlying29 hi hz hsz hby rfl (by decide) _ fl.length _ hs h.fn.own ⟨b,0,none⟩ 1 1 [.string nm,.int .i64 0,.slice pA ps.length pc,.slice none 0 0] hx (by simp) ?_ ?_ (by decide) (by unfold maxLen; omega) (by omega) h1 _ rfl fun g' cap wx k1 k2 k3 _=>?_
 ·intro j u hu;rw [Addr.add_lit,Nat.zero_add];exact (zcr _ hal).trans (by simpa using hu)
 ·intro u hu;simp at hu;rcases hu with rfl | rfl | rfl | rfl <;> rfl
 ·obtain ⟨p1,p2,p3⟩:=h.push (f:=(nm,ps)) hf k1 (q_i _ w) k2 k3;exact hk g' cap wx p1 p2 p3
def bdy (bd:List (List St)) (j:Nat):List St:=(bd[j]?).getD []
theorem z8q (bd:List (List St)) (ts:List St):bdy (bd++[ts]) bd.length=ts:=by simp [bdy]
theorem z8r (bd:List (List St)) (ts:List St) {j:Nat} (h:j≠bd.length):bdy (bd++[ts]) j=bdy bd j:=by
 unfold bdy;rcases q_f j bd.length with hlt | hge
 ·rw [List.getElem?_append_left hlt]
 ·rw [q_j (by simp; omega),q_j hge]
structure SrcB (W0:World) (m g:Nat) (l:List Nat) (gl:List (Zb × Int)) (gA:Option Addr) (gc:Nat) (fl:List (Zb × List Zb)) (fb fc:Nat) (bd:List (List St)) (L:List Value) (bnd:Nat) (lv:Value) (bud:Int) (wr:World):Prop where
 row:wr.heap[m]?=some (.cells #[.pointer (some ⟨g,0,none⟩),.slice gA gl.length gc,.slice (some ⟨fb,0,none⟩) fl.length fc,lv,.int .i64 bud] 94 (0,0))
 co:∃ k,z0A wr g l k
 gown:wr.ownsRow W0.heap.size 68 2 (.slice gA gl.length gc) gl.length (gl.flatMap fun x=>[.string x.1,.int .i64 x.2])
 fown:wr.ownsRow W0.heap.size 83 4 (.slice (some ⟨fb,0,none⟩) fl.length fc) fl.length L
 glt:∀ b,(Value.slice gA gl.length gc).ownBlock=some b->b<bnd/\b≠fb
 flt:fb<bnd
 bs:bnd<=wr.heap.size
 at_:∀ j f,fl[j]?=some f->∃ pA pc bA bc,L[j * 4]?=some (.string f.1)/\L[j * 4+1]?=some (.int .i64 0)/\L[j * 4+2]?=some (.slice pA f.2.length pc)/\L[j * 4+3]?=some (.slice bA (bdy bd j).length bc)/\z0l (fun b=>W0.heap.size<=b/\b<bnd/\b≠fb) wr f.2 pA pc/\RowS (fun b=>W0.heap.size<=b/\b<bnd/\b≠fb) wr 3 3 (bdy bd j) bA bc
 chg:Chg2 m g W0 wr
 mW:m<W0.heap.size
 gm:g<m
 bg:∀ ts∈bd,(∀ t∈ts,GSt 3 t)/\(ts.map (cntS 3)).sum<=77
 bl:bd.length<=fl.length
 sc:∀ (j:Nat) (ts:List St),bd[j]?=some ts->∃ (f:Zb × List Zb) (L':List Zb),fl[j]?=some f/\InB gl fl f.2 ts L'
theorem SrcB.ofF {W0 wr:World} {m g:Nat} {l:List Nat} {gl:List (Zb × Int)} {gA:Option Addr} {gc:Nat} {fl:List (Zb × List Zb)} {L:List Value} {fb fc:Nat} (h:SrcF W0 m g l gl (.slice gA gl.length gc) fl L (.slice (some ⟨fb,0,none⟩) fl.length fc) wr) :
  SrcB W0 m g l gl gA gc fl fb fc [] L wr.heap.size (.slice none 0 0) 0 wr:=by
 refine ⟨h.gs.row,h.gs.co,h.gs.own,h.fn.own,fun b hb=>⟨(h.gs.own.lt b hb).2,fun e=>?_⟩,(h.fn.own.lt fb rfl).2,q_2 _,fun j f hj=>?_,h.gs.chg,h.gs.mW,h.gs.gm,by simp,q_h _,by simp⟩
 ·subst e;exact h.sep b rfl hb
 ·obtain ⟨pA,pc,e0,e1,e2,e3,hp⟩:=h.fn.at_ j f hj;exact ⟨pA,pc,none,0,e0,e1,e2,e3,hp.keep (fun b hb=>⟨hb.1,hb.2.1,fun e=>hb.2.2.1 (by rw [e]; rfl)⟩) (fun _ _=>rfl),q_2 _,fun i x hi=>by simp [bdy] at hi⟩
theorem SrcB.move {W0 w w':World} {m g:Nat} {l:List Nat} {gl:List (Zb × Int)} {gA:Option Addr} {gc:Nat} {fl:List (Zb × List Zb)} {fb fc:Nat} {bd:List (List St)} {L:List Value} {bnd:Nat} {lv lv':Value} {bud bud':Int} (h:SrcB W0 m g l gl gA gc fl fb fc bd L bnd lv bud w)
  (hk:∀ b,W0.heap.size<=b->b<bnd->w'.heap[b]?=w.heap[b]?) (hsz:w.heap.size<=w'.heap.size) (hrow:w'.heap[m]?=some (.cells #[.pointer (some ⟨g,0,none⟩),.slice gA gl.length gc,.slice (some ⟨fb,0,none⟩) fl.length fc,lv',.int .i64 bud'] 94 (0,0))) (hco:∃ k,z0A w' g l k) (hc:Chg2 m g W0 w') :
  SrcB W0 m g l gl gA gc fl fb fc bd L bnd lv' bud' w' :=
 ⟨hrow,hco,z0J h.gown (fun b hb=>hk b (h.gown.lt b hb).1 (h.glt b hb).1),z0J h.fown (fun b hb=>hk b (h.fown.lt b hb).1 (by
   have e2:fb=b:=by simpa [Value.ownBlock] using hb
   rw [<- e2]; exact h.flt)),h.glt,h.flt,q_9 h.bs hsz,fun j f hj=>by
   obtain ⟨pA,pc,bA,bc,e0,e1,e2,e3,hp,hr⟩:=h.at_ j f hj;exact ⟨pA,pc,bA,bc,e0,e1,e2,e3,hp.keep (fun _ hb=>hb) (fun b hb=>hk b hb.1 hb.2.1),RowS.keep (fun _ hb=>hb) (fun b hb=>hk b hb.1 hb.2.1) hr⟩,hc,h.mW,h.gm,h.bg,h.bl,h.sc⟩
theorem SrcB.below {W0 w w':World} {m g:Nat} {l:List Nat} {gl:List (Zb × Int)} {gA:Option Addr} {gc:Nat} {fl:List (Zb × List Zb)} {fb fc:Nat} {bd:List (List St)} {L:List Value} {bnd:Nat} {lv:Value} {bud:Int} (h:SrcB W0 m g l gl gA gc fl fb fc bd L bnd lv bud w) (hb:Below w.heap.size w w') :
  SrcB W0 m g l gl gA gc fl fb fc bd L bnd lv bud w':=by
 have h1:=h.chg.size;have h2:=h.mW;have h3:=h.bs;exact h.move (fun b _ hb2=>hb.block b (by omega)) hb.size ((hb.block m (by omega)).trans h.row) (by obtain ⟨k,hk⟩:=h.co; exact ⟨k,z0C hk hb⟩) (h.chg.far (z02 hb none) (fun b e=>by cases e))
theorem SrcB.grown {W0 w w':World} {m g:Nat} {l:List Nat} {gl:List (Zb × Int)} {gA:Option Addr} {gc:Nat} {fl:List (Zb × List Zb)} {fb fc:Nat} {bd:List (List St)} {L:List Value} {bnd:Nat} {lv:Value} {bud:Int} (h:SrcB W0 m g l gl gA gc fl fb fc bd L bnd lv bud w) (hc:∃ k,z0A w' g l k) (hg:w.grownBy w' (some g)) :
  SrcB W0 m g l gl gA gc fl fb fc bd L bnd lv bud w':=by
 have h1:=h.chg.size;have h2:=h.mW;have h3:=h.bs;have h4:=h.gm;exact h.move (fun b hb1 hb2=>hg.block b (by omega) (fun e=>absurd (show b=g by injection e) (by omega))) hg.size (z04 hg (by omega) h.row) hc (h.chg.far hg (fun b e=>by injection e with e; exact .inr (.inl e.symm)))
theorem SrcB.set3 {W0 w:World} {m g:Nat} {l:List Nat} {gl:List (Zb × Int)} {gA:Option Addr} {gc:Nat} {fl:List (Zb × List Zb)} {fb fc:Nat} {bd:List (List St)} {L:List Value} {bnd:Nat} {lv:Value} {bud:Int} (v:Value) (h:SrcB W0 m g l gl gA gc fl fb fc bd L bnd lv bud w) :
  SrcB W0 m g l gl gA gc fl fb fc bd L bnd v bud (w.setCell ⟨m,3,none⟩ v):=by
 have h2:=h.mW;have h3:=h.bs;have hs:=z03 w ⟨m,3,none⟩ v;exact h.move (fun b hb1 hb2=>hs.block b (by omega) (fun e=>absurd (show b=m by injection e) (by omega))) hs.size (z0a v h.row) (by obtain ⟨k,hk⟩:=h.co; exact ⟨k,z0v hk hs h.gm⟩) (h.chg.far hs (fun b e=>by injection e with e; exact .inl e.symm))
theorem SrcB.set4 {W0 w:World} {m g:Nat} {l:List Nat} {gl:List (Zb × Int)} {gA:Option Addr} {gc:Nat} {fl:List (Zb × List Zb)} {fb fc:Nat} {bd:List (List St)} {L:List Value} {bnd:Nat} {lv:Value} {bud:Int} (z:Int) (h:SrcB W0 m g l gl gA gc fl fb fc bd L bnd lv bud w) :
  SrcB W0 m g l gl gA gc fl fb fc bd L bnd lv z (w.setCell ⟨m,4,none⟩ (.int .i64 z)):=by
 have h2:=h.mW;have h3:=h.bs;have hs:=z03 w ⟨m,4,none⟩ (.int .i64 z);exact h.move (fun b hb1 hb2=>hs.block b (by omega) (fun e=>absurd (show b=m by injection e) (by omega))) hs.size (z0a (.int .i64 z) h.row) (by obtain ⟨k,hk⟩:=h.co; exact ⟨k,z0v hk hs h.gm⟩) (h.chg.far hs (fun b e=>by injection e with e; exact .inl e.symm))
theorem z8S {w:World} {base n c:Nat} {A:Option Addr} {gl:List (Zb × Int)} (ho:w.ownsRow base 68 2 (.slice A n c) gl.length (gl.flatMap fun x=>[.string x.1,.int .i64 x.2])):z0k (fun b=>(Value.slice A n c).ownBlock=some b) w gl A c:=by
 rcases ho.2 with ⟨e,h0⟩ | ⟨g',cap,cur,e,hb,hh,hc,_⟩
 ·injection e with e1 e2 e3;subst e1 e2 e3;exact ⟨by rw [h0]; exact q_2 _,fun i x hi=>by rw [q_g h0] at hi; simp at hi⟩
 ·injection e with e1 e2 e3;subst e1 e2 e3;refine ⟨hc,fun i x hi=>?_⟩;obtain ⟨e0,e1⟩:=z8K gl i x hi;have hcell:∀ k u,(gl.flatMap fun x=>[Value.string x.1,.int .i64 x.2])[k]?=some u->w.cell? ⟨g',k,none⟩=some u:=fun k u hk=>by
   have hk2:k<(gl.flatMap fun x=>[Value.string x.1,.int .i64 x.2]).length:=by
    rcases q_f k (gl.flatMap fun x=>[Value.string x.1,.int .i64 x.2]).length with h' | h'
    ·exact h'
    ·rw [q_j h'] at hk; cases hk
   exact (ho.cellAt k (by have:=ho.1; omega)).trans hk
  exact ⟨g',rfl,rfl,hcell _ _ e0,hcell _ _ e1⟩
theorem SrcB.globs {W0 w:World} {m g:Nat} {l:List Nat} {gl:List (Zb × Int)} {gA:Option Addr} {gc:Nat} {fl:List (Zb × List Zb)} {fb fc:Nat} {bd:List (List St)} {L:List Value} {bnd:Nat} {lv:Value} {bud:Int} (h:SrcB W0 m g l gl gA gc fl fb fc bd L bnd lv bud w) :
  z0k (fun b=>W0.heap.size<=b/\b<bnd) w gl gA gc:=(z8S h.gown).imp fun b hb=>⟨(h.gown.lt b hb).1,(h.glt b hb).1⟩
theorem SrcB.cells {W0 w:World} {m g:Nat} {l:List Nat} {gl:List (Zb × Int)} {gA:Option Addr} {gc:Nat} {fl:List (Zb × List Zb)} {fb fc:Nat} {bd:List (List St)} {L:List Value} {bnd:Nat} {lv:Value} {bud:Int} (h:SrcB W0 m g l gl gA gc fl fb fc bd L bnd lv bud w) :
  fl.length<=fc/\∀ k u,L[k]?=some u->w.cell? ⟨fb,k,none⟩=some u:=by
 refine ⟨?_,fun k u hk=>?_⟩
 ·rcases h.fown.2 with ⟨e,_⟩ | ⟨g',cap,cur,e,_,_,hc,_⟩
  ·injection e with e1;cases e1
  ·injection e with e1 e2 e3;rw [e3]; exact hc
 ·have hk2:k<L.length:=by
   rcases q_f k L.length with h' | h'
   ·exact h'
   ·rw [q_j h'] at hk; cases hk
  exact (h.fown.cellAt k (by have:=h.fown.1; omega)).trans hk
theorem SrcB.funs {W0 w:World} {m g:Nat} {l:List Nat} {gl:List (Zb × Int)} {gA:Option Addr} {gc:Nat} {fl:List (Zb × List Zb)} {fb fc:Nat} {bd:List (List St)} {L:List Value} {bnd:Nat} {lv:Value} {bud:Int} (h:SrcB W0 m g l gl gA gc fl fb fc bd L bnd lv bud w) :
  z1z (fun b=>W0.heap.size<=b/\b<bnd) w fl (some ⟨fb,0,none⟩) fc :=
 ⟨h.cells.1,fun i f hi=>by
  obtain ⟨pA,pc,bA,bc,e0,e1,e2,e3,_⟩:=h.at_ i f hi;exact ⟨fb,pA,pc,bA,_,bc,0,rfl,⟨(h.fown.lt fb rfl).1,h.flt⟩,h.cells.2 _ _ e0,h.cells.2 _ _ e1,h.cells.2 _ _ e2,h.cells.2 _ _ e3⟩⟩
theorem SrcB.ls {W0 w:World} {m g:Nat} {l:List Nat} {gl:List (Zb × Int)} {gA:Option Addr} {gc:Nat} {fl:List (Zb × List Zb)} {fb fc:Nat} {bd:List (List St)} {L:List Value} {bnd base:Nat} {lA:Option Addr} {lc:Nat} {ps:List Zb} {bud:Int} (h:SrcB W0 m g l gl gA gc fl fb fc bd L bnd (.slice lA ps.length lc) bud w)
  (hL:w.ownsRow base 9 1 (.slice lA ps.length lc) ps.length (strV ps)) (hbb:bnd<=base) (hbs:base<=w.heap.size) (hlen:l.length<=1000000) (hl:∀ x∈l,x<256) :
  LS w m g l ⟨gl,fl,ps⟩ bud base:=by
 have h1:=h.mW;have h2:=h.flt;have h3:=(h.fown.lt fb rfl).1;exact zeQ (E:=⟨gl,fl,ps⟩) h.row (h.globs.imp (fun b hb=>⟨by omega,by omega⟩)) (h.funs.imp (fun b hb=>⟨by omega,by omega⟩)) hL h.co hlen hl (by omega) h.gm hbs
theorem SrcB.made {W0 w w':World} {m g:Nat} {l:List Nat} {gl:List (Zb × Int)} {gA:Option Addr} {gc:Nat} {fl:List (Zb × List Zb)} {fb fc:Nat} {bd:List (List St)} {L:List Value} {bnd base:Nat} {lv:Value} {bud bud1 bud':Int} {E E':Env} (h:SrcB W0 m g l gl gA gc fl fb fc bd L bnd lv bud w)
  (hls:LS w m g l E bud1 base) (hbb:bnd<=base) (hc:Chg m g w w') (hls':LS w' m g l E' bud' base):∃ lv',SrcB W0 m g l gl gA gc fl fb fc bd L bnd lv' bud' w':=by
 have h1:=h.mW;have h2:=h.flt;have h3:=(h.fown.lt fb rfl).1;have h4:=h.bs;have h5:=h.gm;have h6:=h.chg.size;obtain ⟨gA',gc',fA',fc',lA,lc,k0,_⟩:=hls'.gs.mka;have p1:=hc.pas 1 (by omega);have p2:=hc.pas 2 (by omega);rw [zcr 1 h.row,zcr 1 k0] at p1;rw [zcr 2 h.row,zcr 2 k0] at p2;have p1:Value.slice gA' E'.globs.length gc'=.slice gA gl.length gc:=by simpa using p1
 have p2:Value.slice fA' E'.funs.length fc'=.slice (some ⟨fb,0,none⟩) fl.length fc:=by simpa using p2
 rw [p1,p2] at k0;have hlb:∀ b,b<base->lb w m≠some b:=fun b hb e=>by have:=(hls.lbl b e).1; omega
 refine ⟨_,h.move (fun b hb1 hb2=>hc.block b (by omega) (by omega) (by omega) (hlb b (by omega))) hc.size k0 hls'.gs.co ?_⟩;exact ⟨hc.os.trans h.chg.os,hc.tape.trans h.chg.tape,hc.output.trans h.chg.output,q_9 h6 hc.size,fun k hk1 hk2 hk3=>(hc.block k (by omega) hk2 hk3 (hlb k (by omega))).trans (h.chg.block k hk1 hk2 hk3)⟩
theorem SrcB.store {W0 w:World} {m g:Nat} {l:List Nat} {gl:List (Zb × Int)} {gA:Option Addr} {gc:Nat} {fl:List (Zb × List Zb)} {fb fc:Nat} {bd:List (List St)} {L:List Value} {bnd:Nat} {lv:Value} {bud:Int} {ts:List St} {A:Option Addr} {c:Nat} {F:Nat->Prop} (h:SrcB W0 m g l gl gA gc fl fb fc bd L bnd lv bud w)
  (hlt:bd.length<fl.length) (hr:RowS F w 3 3 ts A c) (hF:∀ b,F b->W0.heap.size<=b/\b<w.heap.size/\b≠fb) (hg:(∀ t∈ts,GSt 3 t)/\(ts.map (cntS 3)).sum<=77) (hsc:∃ (f:Zb × List Zb) (L':List Zb),fl[bd.length]?=some f/\InB gl fl f.2 ts L') :
  SrcB W0 m g l gl gA gc fl fb fc (bd++[ts]) (L.set (bd.length * 4+3) (.slice A ts.length c)) w.heap.size lv bud (w.setCell ⟨fb,bd.length * 4+3,none⟩ (.slice A ts.length c))/\(∃ u,w.cell? ⟨fb,bd.length * 4+3,none⟩=some u)/\w.frozen? ⟨fb,bd.length * 4+3,none⟩=false:=by
 have h1:=h.mW;have h2:=h.flt;have h3:=(h.fown.lt fb rfl).1;have h4:=h.bs;have h5:=h.gm;have h6:=h.chg.size;have hL:L.length=fl.length * 4:=h.fown.1;have hst:=h.fown.stored (bd.length * 4+3) (.slice A ts.length c);have hs:=hst.2;have hk:∀ b,b<w.heap.size->b≠fb->(w.setCell ⟨fb,bd.length * 4+3,none⟩ (.slice A ts.length c)).heap[b]?=w.heap[b]?:=fun b hb1 hb2=>hs.block b hb1 (fun e=>hb2 (by injection e))
 have hset:∀ k u,k≠bd.length * 4+3->L[k]?=some u->(L.set (bd.length * 4+3) (Value.slice A ts.length c))[k]?=some u:=fun k u hne hk=>by rw [List.getElem?_set_ne (fun e=>hne e.symm)]; exact hk
 obtain ⟨f,hf⟩:∃ f,fl[bd.length]?=some f:=⟨fl[bd.length]'hlt,q_7 _⟩;have hscN:∀ (j:Nat) (us:List St),(bd++[ts])[j]?=some us->∃ (f:Zb × List Zb) (L':List Zb),fl[j]?=some f/\InB gl fl f.2 us L':=fun j us hj=>by
  rcases q_f j bd.length with h' | h'
  ·rw [List.getElem?_append_left h'] at hj;exact h.sc j us hj
  ·rw [List.getElem?_append_right h'] at hj;rcases q_f bd.length j with h2' | h2'
   ·rw [q_j (by simp; omega)] at hj; cases hj
   ·obtain rfl:j=bd.length:=by omega
    simp at hj;subst hj;exact hsc
 refine ⟨⟨(hk m (by omega) (by omega)).trans h.row,?_,z0J h.gown (fun b hb=>hk b (h.gown.lt b hb).2 (h.glt b hb).2),hst.1,fun b hb=>⟨q_1 (h.glt b hb).1 h4,(h.glt b hb).2⟩,by omega,hs.size,fun j f hj=>?_,h.chg.far hs (fun b e=>by injection e with e; exact .inr (.inr (by omega))),h1,h5,fun t ht=>?_,by simp; omega,hscN⟩,?_,h.fown.frozenAt _⟩
 ·obtain ⟨k,hk⟩:=h.co;exact ⟨k,z0v hk hs (show g<fb by omega)⟩
 ·obtain ⟨pA,pc,bA,bc,e0,e1,e2,e3,hp,hr0⟩:=h.at_ j f hj;have hps:=hp.keep (G:=fun b=>W0.heap.size<=b/\b<w.heap.size/\b≠fb) (fun b hb=>⟨hb.1,by omega,hb.2.2⟩) (fun b hb=>hk b (by omega) hb.2.2)
  by_cases hji:j=bd.length
  ·subst hji;refine ⟨pA,pc,A,c,hset _ _ (by omega) e0,hset _ _ (by omega) e1,hset _ _ (by omega) e2,?_,hps,?_⟩
   ·rw [z8q,List.getElem?_set_self (by omega)]
   ·rw [z8q];exact RowS.keep hF (fun b hb=>hk b (hF b hb).2.1 (hF b hb).2.2) hr
  ·refine ⟨pA,pc,bA,bc,hset _ _ (by omega) e0,hset _ _ (by omega) e1,hset _ _ (by omega) e2,?_,hps,?_⟩
   ·rw [z8r _ _ hji]; exact hset _ _ (by omega) e3
   ·rw [z8r _ _ hji];exact RowS.keep (fun b hb=>⟨hb.1,by omega,hb.2.2⟩) (fun b hb=>hk b (by omega) hb.2.2) hr0
 ·rcases q_8.1 ht with ht | ht
  ·exact h.bg t ht
  ·simp at ht;subst ht;exact hg
 ·obtain ⟨pA,pc,bA,bc,e0,e1,e2,e3,_⟩:=h.at_ _ f hf;exact ⟨_,h.cells.2 _ _ e3⟩
def z4p (fl:List (Zb × List Zb)) (bd:List (List St)):List Fn:=(fl.zip bd).map fun p=>⟨p.1.1,0,p.1.2,p.2⟩
theorem z2Y {fl:List (Zb × List Zb)} {bd:List (List St)} (h:bd.length=fl.length):(z4p fl bd).length=fl.length:=by simp [z4p,h]
theorem z4U {fl:List (Zb × List Zb)} {bd:List (List St)} (h:bd.length=fl.length) {i:Nat} {f:Fn} (hf:(z4p fl bd)[i]?=some f):fl[i]?=some (f.name,f.params)/\bdy bd i=f.body/\f.line=0/\f.body∈bd:=by
 unfold z4p at hf;rw [q_b] at hf;have hi:i<fl.length:=by
  rcases q_f i fl.length with h' | h'
  ·exact h'
  ·rw [q_j (by simp; omega)] at hf; cases hf
 have hz:(fl.zip bd)[i]?=some (fl[i],bd[i]):=by
  rw [q_7 (by simp; omega)];simp
 rw [hz] at hf;simp only [Option.map_some,Option.some.injEq] at hf;subst hf;refine ⟨by rw [q_7 hi],?_,rfl,List.getElem_mem _⟩;unfold bdy;rw [q_7 (by omega)];rfl
theorem SrcB.funcs {W0 w:World} {m g:Nat} {l:List Nat} {gl:List (Zb × Int)} {gA:Option Addr} {gc:Nat} {fl:List (Zb × List Zb)} {fb fc:Nat} {bd:List (List St)} {L:List Value} {bnd:Nat} {lv:Value} {bud:Int} (h:SrcB W0 m g l gl gA gc fl fb fc bd L bnd lv bud w) (hn:bd.length=fl.length) :
  z0R (fun b=>W0.heap.size<=b/\b<bnd) w 3 3 (z4p fl bd) (some ⟨fb,0,none⟩) fc :=
 ⟨by rw [z2Y hn]; exact h.cells.1,fun i f hi=>by
  obtain ⟨h1,h2,h3,_⟩:=z4U hn hi;obtain ⟨pA,pc,bA,bc,e0,e1,e2,e3,hp,hr⟩:=h.at_ i _ h1;rw [h2] at e3 hr;rw [<- h3] at e1;exact ⟨fb,pA,pc,bA,bc,rfl,⟨(h.fown.lt fb rfl).1,h.flt⟩,h.cells.2 _ _ e0,h.cells.2 _ _ e1,h.cells.2 _ _ e2,h.cells.2 _ _ e3,hp.keep (fun b hb=>⟨hb.1,hb.2.1⟩) (fun _ _=>rfl),RowS.keep (fun b hb=>⟨hb.1,hb.2.1⟩) (fun _ _=>rfl) hr⟩⟩
theorem z4b {P:Program} {w:World} (base:Nat) (t ty e:TypeId) (i:TypeInfo) (size c:Nat) (ht:P.underlying t=some (.slice e)) (hi:P.info? e=some i)
  (v:Value) (n:Nat) (xs:List Value) (hown:w.ownsRow base e size v n xs) :
  (Builtin.append_ #[t,t] ty #[v,.slice none 0 c]).run P w=.ok v w:=by
 rcases hown.2 with ⟨rfl,rfl⟩ | ⟨g,cap,cur,rfl,_,_,hnc,_⟩
 ·simp [Builtin.append_,run_underlying ht,sizeOf,typeInfo,hi,Builtin.lenOf,Builtin.firstCells]
 ·simp [Builtin.append_,run_underlying ht,sizeOf,typeInfo,hi,Builtin.lenOf,Builtin.firstCells,hnc,storeCells]
theorem z3g {P:Program} {w:World} {ops:Array Oper} {rest:List Oper} {o:Oper} {a:Act} {Q:Exit->Act->World->Prop} (hgd:o.guard=none) (s x:Operand) (t:TypeId)
  (ho:o.op=.call { callee:=.builtin .append,args:=#[s,x],argTypes:=#[t,t] })
  (base:Nat) (e:TypeId) (i:TypeInfo) (size c:Nat) (ht:P.underlying t=some (.slice e)) (hi:P.info? e=some i)
  (v:Value) (n:Nat) (xs:List Value) (hs:a.eval s=v) (hown:w.ownsRow base e size v n xs) (hx:a.eval x=.slice none 0 c)
  (h:wpList P ops Q rest (a.put o.dst v) w):wpList P ops Q (o :: rest) a w:=by
 refine wpList_plain hgd fun K hK=>?_
 have hrun:=z4b (P:=P) (w:=w) base t o.type e i size c ht hi v n xs hown;unfold Oper.wp;simp [execOp,ho,resolve,invoke,builtin,hs,hx,hrun,Result.andThen];exact hK _ _ h
theorem z3h {ops:Array Oper} {rest:List Oper} {o:Oper} {a:Act} {Q:Exit->Act->World->Prop} (w:World) (hgd:o.guard=none) (s x:Operand)
  (ho:o.op=.call { callee:=.builtin .append,args:=#[s,x],argTypes:=#[80,80] }) (F:Nat->Prop) (n:Nat) (ps:List Zb) (pA:Option Addr) (pc:Nat) (hn:n=ps.length)
  (hs:a.eval s=.slice none 0 0) (hx:a.eval x=.slice pA n pc) (hp:z0l F w ps pA pc) (hlen:n<=1000)
  (hk:∀ lA lc wx,wx.ownsRow w.heap.size 9 1 (.slice lA n lc) ps.length (strV ps)->Below w.heap.size w wx->wpList Tryz.prog ops Q rest (a.put o.dst (.slice lA n lc)) wx) :
  wpList Tryz.prog ops Q (o :: rest) a w:=by
 subst hn;obtain ⟨i,hi,hz,hsz,hby⟩:=info_parts z3M;have hnil:=World.ownsRow_nil w w.heap.size 9 1;cases pA with
 | none =>
  have h0:ps=[]:=by
   cases ps with
   | nil=>rfl
   | cons p r =>
    obtain ⟨g,hg,_⟩:=hp.2 0 p rfl;cases hg
  subst h0;exact z3g hgd s x _ ho w.heap.size 9 i 1 pc Tryz.underlying80 hi _ 0 [] hs hnil hx (by rw [<- hs]; exact hs ▸ hk none 0 w hnil (q_i _ _))
 | some ad =>
  refine wpList_append_own_at _ hgd s x _ ho w.heap.size 9 i _ 1 16 Tryz.underlying80 hi hz hsz hby rfl (by decide) _ 0 [] hs hnil ad ps.length pc (strV ps) hx (by simp [strV]) ?_ ?_ (by unfold maxLen; omega) (by omega) (q_2 _) ?_
  ·intro j u hu;rw [strV,q_b] at hu;obtain ⟨y,hy,rfl⟩:=q_c.1 hu;obtain ⟨g,hg,_,hc⟩:=hp.2 j y hy;injection hg with hg;subst hg;rw [Addr.add_lit,Nat.zero_add];exact hc
  ·intro u hu;rw [strV] at hu;obtain ⟨y,_,rfl⟩:=List.mem_map.1 hu;rfl
  ·intro v' w' hown hg _ _;simp only [Nat.zero_add,List.nil_append] at hown;obtain ⟨lA,lc,rfl⟩:=z0x hown;exact hk lA lc w' hown ⟨hg.os,hg.tape,hg.output,hg.size,fun k hk=>hg.block k hk (fun e=>by cases e)⟩
theorem zaz {m g base:Nat} {l:List Nat} {E:Env} {bud:Int} {w:World} (z nz:Int) (n:Nat) (hz:z=2) (hnz:nz=(n:Int)) (hn:n<=10) (hE:z1s E) (hls:LS w m g l E bud base) (hb0:0<=bud) (hln:(E.locals.length:Int)+bud<=1000) :
  Calls Tryz.prog 33 #[.pointer (some ⟨m,0,none⟩),.int .i64 z,.int .i64 nz] w (zbL m g l E bud base 2 w):=by
 subst hnz;exact z8u m g l base 2 (by omega) E bud w z n hz hn hE hls hb0 hln
theorem z0l.low {F G:Nat->Prop} {w w':World} {l:List Zb} {A:Option Addr} {c:Nat} (h:z0l F w l A c) (hFG:∀ b,F b->G b/\w'.heap[b]?=w.heap[b]?):z0l G w' l A c:=h.keep (fun b hb=>(hFG b hb).1) (fun b hb=>(hFG b hb).2)
def nmI (c:UInt8) (n:Nat):Zb:=⟨#[c,UInt8.ofNat (48+n)]⟩
def z6R (gl:List (Zb × Int)):Prop:=∀ i x,gl[i]?=some x->x.1=nmI 103 i
def zci (ps:List Zb):Prop:=∀ j p,ps[j]?=some p->p=nmI 112 j
def zat (fl:List (Zb × List Zb)):Prop:=∀ i f,fl[i]?=some f->f.1=(if i=0 then z1I else nmI 102 i)/\(i=0->f.2=[])/\zci f.2
def z3v (f:Fn):Zb × List Zb:=(f.name,f.params)
structure z6S (gl:List (Zb × Int)) (fns:List Fn):Prop where
 ng:z6R gl
 nf:zat (fns.map z3v)
 sc:∀ f∈fns,∃ L',InB gl (fns.map z3v) f.params f.body L'
theorem z4z {fl:List (Zb × List Zb)} {bd:List (List St)} (h:bd.length=fl.length):(z4p fl bd).map z3v=fl:=by
 apply List.ext_getElem?;intro i;rcases q_f i fl.length with h' | h'
 ·have hz:(fl.zip bd)[i]?=some (fl[i],bd[i]'(by omega)):=by
   rw [q_7 (by simp; omega)];simp
  simp only [z4p,q_b,hz,Option.map_some,q_7 h'];rfl
 ·rw [q_j h',q_j (by simp [z4p]; omega)]
theorem zbh {gl:List (Zb × Int)} {fl:List (Zb × List Zb)} {bd:List (List St)} (h:bd.length=fl.length) (hg:z6R gl) (hf:zat fl) (hs:∀ (j:Nat) (ts:List St),bd[j]?=some ts->∃ (f:Zb × List Zb) (L':List Zb),fl[j]?=some f/\InB gl fl f.2 ts L'):z6S gl (z4p fl bd):=by
 refine ⟨hg,by rw [z4z h]; exact hf,fun f hm=>?_⟩;obtain ⟨i,hi⟩:=q_l hm;obtain ⟨k1,k2,_,_⟩:=z4U h hi;have hlt:i<bd.length:=by
  rcases q_f i fl.length with h' | h'
  ·omega
  ·rw [q_j h'] at k1; cases k1
 obtain ⟨f2,L',e1,e2⟩:=hs i _ (q_7 hlt);rw [k1] at e1;injection e1 with e1;subst e1;refine ⟨L',?_⟩;rw [z4z h];have:bd[i]=f.body:=by rw [<- k2,bdy,q_7 hlt]; rfl
 rw [<- this];exact e2
def z6c (g:Nat) (l:List Nat) (w:World) (e:Ending) (w':World):Prop :=
 ∃ (gl:List (Zb × Int)) (fns:List Fn) (gA fA:Option Addr) (gc fc:Nat),(e=.returned (.agg #[.slice gA gl.length gc,.slice fA fns.length fc])/\z0k (fun b=>w.heap.size<=b/\b<w'.heap.size) w' gl gA gc/\z0R (fun b=>w.heap.size<=b/\b<w'.heap.size) w' 3 3 fns fA fc /\
  (∀ x∈gl,GG x)/\(∀ f∈fns,GF 2 f)/\gl.length<=4/\1<=fns.length/\fns.length<=4/\(∃ k,z0A w' g l k)/\w.grownBy w' (some g))/\z6S gl fns
theorem z85 {w W0 wr w9:World} {o1 o2:Obj} {m g:Nat} {l:List Nat} {gl:List (Zb × Int)} {gA:Option Addr} {gc:Nat} {fl:List (Zb × List Zb)} {fb fc:Nat} {bd:List (List St)} {L:List Value} {bnd:Nat} {lv:Value} {bud:Int} (hW:(w.alloc o1).alloc o2=W0) (hm:m=w.heap.size+1) (h:SrcB W0 m g l gl gA gc fl fb fc bd L bnd lv bud wr)
  (hn:bd.length=fl.length) (hgw:g<w.heap.size) (hg9:wr.grownBy w9 (some w.heap.size)) (hgg:∀ x∈gl,GG x) (hff:∀ f∈fl,z0B f.1/\f.2.length<=2/\∀ p∈f.2,z0B p) (h4:gl.length<=4) (h1:1<=fl.length) (hf4:fl.length<=4) (hng:z6R gl) (hnf:zat fl) :
  z6c g l w (.returned (.agg #[.slice gA gl.length gc,.slice (some ⟨fb,0,none⟩) fl.length fc])) w9:=by
 have hws:W0.heap.size=w.heap.size+2:=by rw [<- hW]; simp
 have hbs:=h.bs;have hsz:=h.chg.size;have hk:∀ b,W0.heap.size<=b/\b<bnd->(w.heap.size<=b/\b<w9.heap.size)/\w9.heap[b]?=wr.heap[b]?:=fun b hb=>⟨⟨by omega,q_1 (by omega) hg9.size⟩,hg9.block b (by omega) (fun e=>absurd (show b=w.heap.size by injection e) (by omega))⟩
 have hG:=h.globs;have hF:=h.funcs hn;refine ⟨gl,z4p fl bd,gA,some ⟨fb,0,none⟩,gc,fc,⟨by rw [z2Y hn],⟨hG.1,fun i x hi=>?_⟩,⟨hF.1,fun i f hi=>?_⟩,hgg,fun f hf=>?_,h4,by rw [z2Y hn]; exact h1,by rw [z2Y hn]; exact hf4,?_,?_⟩,zbh hn hng hnf h.sc⟩
 ·obtain ⟨r,hA,hr,e0,e1⟩:=hG.2 i x hi;have e:=(hk r hr).2;exact ⟨r,hA,(hk r hr).1,(q_6 e).trans e0,(q_6 e).trans e1⟩
 ·obtain ⟨r,pA,pc,bA,bc,hA,hr,e0,e1,e2,e3,hp,hb⟩:=hF.2 i f hi;have e:=(hk r hr).2;exact ⟨r,pA,pc,bA,bc,hA,(hk r hr).1,(q_6 e).trans e0,(q_6 e).trans e1,(q_6 e).trans e2,(q_6 e).trans e3,hp.low hk,RowS.keep (fun b hb=>(hk b hb).1) (fun b hb=>(hk b hb).2) hb⟩
 ·obtain ⟨i,hi⟩:=q_l hf;obtain ⟨k1,_,_,k4⟩:=z4U hn hi;obtain ⟨a1,a2,a3⟩:=hff _ (q_a k1);exact ⟨a1,a2,a3,h.bg _ k4⟩
 ·obtain ⟨k,hk⟩:=h.co;exact ⟨k,z0v hk hg9 hgw⟩
 ·refine ⟨?_,?_,?_,?_,fun k hk1 hk2=>?_⟩
  ·rw [hg9.os,h.chg.os,<- hW]; rfl
  ·rw [hg9.tape,h.chg.tape,<- hW]; rfl
  ·rw [hg9.output,h.chg.output,<- hW]; rfl
  ·have:=hg9.size;omega
  ·rw [hg9.block k (by omega) (fun e=>absurd (show k=w.heap.size by injection e) (by omega)),h.chg.block k (by omega) (by omega) (fun e=>hk2 (by rw [e])),<- hW];have hb:=((q_i _ w).alloc (q_2 _) o1).alloc (by simp) o2;exact hb.block k hk1
end Go.Proofs.YtdflbhofmmlpgaaGreat
