/-
  Me: Yh, Yi. Part of the proof. No condition.
-/
import Derived.Test.YtdflbhofmmlpgaaGreatMd
import Derived.Deep.RegionHeld
set_option maxRecDepth 100000
set_option maxHeartbeats 8000000
namespace Go.Proofs.YtdflbhofmmlpgaaGreat
open Go.RowKit
structure RyS (w w1:World) (gv fv v0 v1:Value) (ko:Nat) (O:NmF) (wr:World):Prop where
 p:wr.heap[w.heap.size]?=some (.cells #[gv,fv] 31 (0,0))
 q:wr.heap[w.heap.size+1]?=some (.cells #[v0,v1] 55 (0,0))
 o:MapZ wr (w.heap.size+2) ko O
 lo:Below w.heap.size w wr
 ml:w1.heap.size<=wr.heap.size
 mid:∀ b,w.heap.size+3<=b->b<w1.heap.size->wr.heap[b]?=w1.heap[b]?
section
variable {w w1 wr wd:World} {gv fv v0 v1:Value} {ko:Nat} {O:NmF}
theorem RyS.size (h:RyS w w1 gv fv v0 v1 ko O wr):w.heap.size+3<=wr.heap.size:=h.o.lt
theorem RyS.grown {row:Option Nat} (h:RyS w w1 gv fv v0 v1 ko O wr) (hg:wr.grownBy wd row) (hr:∀ b,row=some b->w.heap.size+3<=b/\w1.heap.size<=b):RyS w w1 gv fv v0 v1 ko O wd:=by
 have hs:=h.size;have hn:∀ b,b<w.heap.size+3->some b≠row:=fun b hb e=>by have:=(hr b e.symm).1; omega
 refine ⟨(hg.block _ (by omega) (hn _ (by omega))).trans h.p,(hg.block _ (by omega) (hn _ (by omega))).trans h.q,h.o.grown hg (hn _ (by omega)),h.lo.trans (z05 hg (fun k hk=>by have:=(hr k hk).1; omega) h.lo.size),q_9 h.ml hg.size,fun b h1 h2=>?_⟩;exact (hg.block b (q_1 h2 h.ml) (fun e=>by have:=(hr b e.symm).2; omega)).trans (h.mid b h1 h2)
theorem RyS.below (h:RyS w w1 gv fv v0 v1 ko O wr) (hb:Below wr.heap.size wr wd):RyS w w1 gv fv v0 v1 ko O wd:=h.grown (z02 hb none) (fun b e=>by cases e)
theorem RyS.put0 {v:Value} (h:RyS w w1 gv fv v0 v1 ko O wr):RyS w w1 gv fv v v1 ko O (wr.setCell ⟨w.heap.size+1,0,none⟩ v)/\wr.grownBy (wr.setCell ⟨w.heap.size+1,0,none⟩ v) (some (w.heap.size+1)):=by
 have hg:wr.grownBy (wr.setCell ⟨w.heap.size+1,0,none⟩ v) (some (w.heap.size+1)):=z03 wr ⟨w.heap.size+1,0,none⟩ _;have hs:=h.size;refine ⟨⟨z04 hg (by omega) h.p,z0a (i:=0) _ h.q,h.o.grown hg (fun e=>by injection e with e; omega),h.lo.trans (z05 hg (fun k hk=>by injection hk with hk; omega) h.lo.size),q_9 h.ml hg.size,fun b h1 h2=>?_⟩,hg⟩;exact (hg.block b (q_1 h2 h.ml) (fun e=>by injection e with e; omega)).trans (h.mid b h1 h2)
theorem RyS.put1 {v:Value} (h:RyS w w1 gv fv v0 v1 ko O wr):RyS w w1 gv fv v0 v ko O (wr.setCell ⟨w.heap.size+1,1,none⟩ v)/\wr.grownBy (wr.setCell ⟨w.heap.size+1,1,none⟩ v) (some (w.heap.size+1)):=by
 have hg:wr.grownBy (wr.setCell ⟨w.heap.size+1,1,none⟩ v) (some (w.heap.size+1)):=z03 wr ⟨w.heap.size+1,1,none⟩ _;have hs:=h.size;refine ⟨⟨z04 hg (by omega) h.p,z0a (i:=1) _ h.q,h.o.grown hg (fun e=>by injection e with e; omega),h.lo.trans (z05 hg (fun k hk=>by injection hk with hk; omega) h.lo.size),q_9 h.ml hg.size,fun b h1 h2=>?_⟩,hg⟩;exact (hg.block b (q_1 h2 h.ml) (fun e=>by injection e with e; omega)).trans (h.mid b h1 h2)
theorem RyS.putO (h:RyS w w1 gv fv v0 v1 ko O wr) (hk:ko<1000000) (s:Zb) (hs:s.size<=maxLen) (i:Nat) (hi:i<1000000) :
  ∃ wd ko',(Instr.mapUpdate 97 (.map (some (w.heap.size+2))) (.string s) (.int .i64 (i:Int))).run Tryz.prog wr=.ok () wd/\ko'<=ko+1/\RyS w w1 gv fv v0 v1 ko' (O.put s i) wd/\wr.grownBy wd (some (w.heap.size+2)):=by
 obtain ⟨wd,hr,hm,hg⟩:=h.o.put hk s hs i hi;have hsz:=h.size;refine ⟨wd,_,hr,?_,⟨z04 hg (by omega) h.p,z04 hg (by omega) h.q,hm,h.lo.trans (z05 hg (fun k hk=>by injection hk with hk; omega) h.lo.size),q_9 h.ml hg.size,fun b h1 h2=>?_⟩,hg⟩
 ·split <;> omega
 ·exact (hg.block b (q_1 h2 h.ml) (fun e=>by injection e with e; omega)).trans (h.mid b h1 h2)
theorem RyS.rebase (h:RyS w w1 gv fv v0 v1 ko O wr):RyS w wr gv fv v0 v1 ko O wr:=⟨h.p,h.q,h.o,h.lo,q_2 _,fun _ _ _=>rfl⟩
end
theorem z1f {α:Type} {k:Nat} {T:TypeId} {V:z1H α} {base:Nat} {w w':World} {v:Value} {xs:List α} {L:List Value} {row:Option Nat} (hV:V.Keeps) (h:GRow k T V base w v xs L) (hg:w.grownBy w' row) (hr:∀ b,row=some b->b<base\/w.heap.size<=b):GRow k T V base w' v xs L:=by
 have hk:∀ b,base<=b->b<w.heap.size->w'.heap[b]?=w.heap[b]?:=fun b h1 h2=>hg.block b h2 (fun e=>by have:=hr b e.symm; omega)
 refine ⟨z1j h.own (fun b hb'=>hk b (h.own.lt b hb').1 (h.own.lt b hb').2),fun j x hj=>?_⟩;obtain ⟨cs,q1,q2,q3⟩:=h.at_ j x hj;exact ⟨cs,q1,q2,hV _ _ _ _ _ _ (fun b hb'=>⟨hb'.1,q_1 hb'.2.1 hg.size,hb'.2.2⟩) (fun b hb'=>hk b hb'.1 hb'.2.1) q3⟩
theorem z29 {α β:Type} (g:α->β) (l:List α) (i:Nat) (x:α) (h:l[i]?=some x):(l.take (i+1)).map g=(l.take i).map g++[g x]:=by
 rw [List.take_add_one,h];simp
def szI (gl:GlL):List Int:=gl.map fun x=>max x.2 1
theorem zdi (gl:GlL):(szI gl).length=gl.length:=by simp [szI]
theorem zbo {gl:GlL} {k:Nat} {x:Zb × Int} (h:gl[k]?=some x):szI (gl.take (k+1))=szI (gl.take k)++[max x.2 1]:=z29 _ gl k x h
theorem z3o {α:Type} (g:α->Zb) {l:List α} {k i:Nat} {x:α} (m:NmF) (h:l[k]?=some x) (hi:i=0):z1k m i ((l.take (k+1)).map g)=(z1k m i ((l.take k).map g)).put (g x) (k:Int):=by
 have hlt:=(List.getElem?_eq_some_iff.1 h).1;rw [z29 _ _ _ _ h,z5P,hi];simp;rw [Nat.min_eq_left (by omega)]
theorem zcW {w:World} {base n c:Nat} {A:Option Addr} {xs:List Zb} (h:w.ownsRow base 9 1 (.slice A n c) xs.length (xs.map Value.string)):n=xs.length/\n<=c/\∀ (j:Nat) (x:Zb),xs[j]?=some x->∃ g,A=some ⟨g,0,none⟩/\base<=g/\g<w.heap.size/\w.cell? ⟨g,j,none⟩=some (.string x):=by
 rcases h.2 with ⟨e,h0⟩ | ⟨g,cap,cur,e,hb,hh,hc,_,hsz,htk⟩
 ·injection e with e1 e2 e3;subst e1 e2 e3;exact ⟨h0.symm,q_2 _,fun j x hx=>by rw [q_g h0] at hx; simp at hx⟩
 ·injection e with e1 e2 e3;subst e1 e2 e3;refine ⟨rfl,hc,fun j x hx=>⟨g,rfl,hb,(q_0.1 hh).1,?_⟩⟩;have hlt:=(List.getElem?_eq_some_iff.1 hx).1;rw [zcr j hh];have h2:(cur.toList.take (xs.length * 1))[j]?=some (.string x):=by rw [htk]; simp [hx]
  rw [List.getElem?_take,if_pos (by omega)] at h2;simpa using h2
structure zar (f:Fn):Prop where
 nm:f.name.size<=1000
 pl:f.params.length<=1000
 bl:f.body.length<=1000000
 fw:fwB f.body
 sz:szB f.body
 ct:f.params.length+(vrL f.body).length<=100000
 nd:(f.params++vrL f.body).Nodup
 ns:∀ s∈f.params++vrL f.body,s.size<=1000
def RdZ (D d:Nat) (gl:GlL) (fl:List Fn) (w:World) (e:Ending) (w':World):Prop:=∃ sA sc qA qc,e=.returned (.agg #[.slice sA gl.length sc,.slice qA fl.length qc])/\RowG 1 ZInt (fun b=>w.heap.size<=b/\b<w'.heap.size) w' (szI gl) sA sc/\RowG 3 (MFz D d) (fun b=>w.heap.size<=b/\b<w'.heap.size) w' (fl.map (nF (outF gl fl))) qA qc/\Below w.heap.size w w'
theorem z6p:(Tryz.prog.info? 103).map (fun i=>(i.zero,i.size,i.bytes))=some (some (.agg #[.int .i64 0,.int .i64 0,.slice none 0 0]),3,40):=by kernel_rfl
theorem zbd {P:Program} {w:World} {ops:Array Oper} {rest:List Oper} {d:Option Tmp} {ty:TypeId} {x y:Operand} {pos:String} {af:Array Edge} {gd:Option (Nat × Bool)} {a:Act} {Q:Exit->Act->World->Prop}
  (h:z07 (wpList P ops Q ({ dst:=d,op:=.store 55 x y,type:=ty,pos:=pos,after:=af,guard:=gd } :: rest) a w)):wpList P ops Q ({ dst:=d,op:=.store 55 x y,type:=ty,pos:=pos,after:=af,guard:=gd } :: rest) a w:=h
theorem z2l {α:Type} {k:Nat} {T S:TypeId} {V:z1H α} {ops:Array Oper} {o:Oper} {a:Act} {K:Act->World->Prop} {Q:Exit->Act->World->Prop} {E:Prop} (w:World) (hgd:o.guard=none) (s x:Operand)
  (ho:o.op=.call { callee:=.builtin .append,args:=#[s,x],argTypes:=#[S,S] }) (hV:V.Keeps) (z:Value) (bytes:Nat) (ht:Tryz.prog.underlying S=some (.slice T)) (hinfo:(Tryz.prog.info? T).map (fun i=>(i.zero,i.size,i.bytes))=some (some z,k,bytes)) (hzs:z.cells.size=k) (hk0:0<k) (hb0:bytes<=1000)
  (base:Nat) (v:Value) (xs:List α) (L:List Value) (y:α) (cs:List Value) (F:Nat->Prop)
  (hs:a.eval s=v) (hx:a.eval x=.slice (some ⟨w.heap.size,0,none⟩) 1 1) (h:GRow k T V base w v xs L) (hlen:xs.length<=1000000) (hbase:base<=w.heap.size)
  (hcs:cs.length=k) (h1:∀ u∈cs,u.oneCell'=true) (hy:V F w y cs) (hF:∀ b,F b->base<=b/\b<w.heap.size/\v.ownBlock≠some b)
  (hk:∀ g cap w',GRow k T V base w' (.slice (some ⟨g,0,none⟩) (xs.length+1) cap) (xs++[y]) (L++cs)->w.grownBy w' v.ownBlock->(v.ownBlock=some g\/w.heap.size<=g)->K (a.put o.dst (.slice (some ⟨g,0,none⟩) (xs.length+1) cap)) w') :
  if Region.wanted o (yielded ops a.tmps)=true then Oper.wp Tryz.prog o a (w.alloc (.cells cs.toArray T)) K Q else E:=by
 obtain ⟨i,hi,hz,hsz,hby⟩:=info_parts hinfo;have hmul:(xs.length+1) * bytes<=1000001 * 1000:=Nat.mul_le_mul (by omega) hb0;refine step_append_lies _ hgd s x _ ho base T i z k bytes ht hi hz hsz hby hzs hk0 v xs.length L hs (h.own.alloc _) ⟨w.heap.size,0,none⟩ 1 1 cs hx (by omega) ?_ h1 (by decide) (by unfold maxLen; omega) (by omega) (by simp; omega) _ rfl fun g cap w' h1 h2 h3 _=>hk g cap w' (h.push hV hcs hy hF h1 ((q_i _ w).alloc (q_2 _) _) h2 h3) ((World.grownBy_alloc _ _ _).trans h2) (h3.imp id (fun e=>by rw [e]; simp))
 intro j u hu;rw [Addr.add_lit,Nat.zero_add];exact (zcr _ (q_4 w _)).trans (by simpa using hu)
def LpA (gl:GlL) (w:World) (gv fv v:Value) (wr:World):Prop:=∃ (k ko:Nat) (A:Option Addr) (n c:Nat) (L:List Value),v=.int .i64 (k:Int)/\k<=gl.length/\n=k/\ko<=k/\RyS w w gv fv (.slice A n c) (.slice none 0 0) ko (z1k nilF 0 ((gl.take k).map (·.1))) wr/\GRow 1 3 ZInt (w.heap.size+3) wr (.slice A n c) (szI (gl.take k)) L
def LpB (fl:List Fn) (m:NmF) (kg:Nat) (w w1:World) (gv fv v0 v:Value) (wr:World):Prop:=∃ (k ko:Nat),v=.int .i64 (k:Int)/\k<=fl.length/\ko<=kg+k/\RyS w w1 gv fv v0 (.slice none 0 0) ko (z1k m 0 ((fl.take k).map (·.name))) wr
def LpC (D d:Nat) (fl:List Fn) (O:NmF) (ko:Nat) (w w1:World) (gv fv v0 v:Value) (wr:World):Prop:=∃ (k:Nat) (A:Option Addr) (n c:Nat) (L:List Value),v=.int .i64 (k:Int)/\k<=fl.length/\n=k/\RyS w w1 gv fv v0 (.slice A n c) ko O wr/\GRow 3 103 (MFz D d) w1.heap.size wr (.slice A n c) ((fl.take k).map (nF O)) L
theorem z7N {l:List Zb} {t:Nat} {s:Zb} (h:l.Nodup) (hs:l[t]?=some s):s ∉ l.take t:=by
 intro hm;obtain ⟨q,hq,e⟩:=List.mem_iff_getElem.1 hm;obtain ⟨ht,e2⟩:=List.getElem?_eq_some_iff.1 hs;rw [List.getElem_take] at e;rw [List.length_take] at hq;exact (List.pairwise_iff_getElem.1 h) q t (by omega) ht (by omega) (e.trans e2.symm)
def RyT (w wu:World) (pA:Option Addr) (pn pc:Nat) (bA:Option Addr) (n bc kl:Nat) (w':World):Prop :=
 w'.cell? ⟨wu.heap.size,2,none⟩=some (.slice pA pn pc)/\w'.cell? ⟨wu.heap.size,3,none⟩=some (.slice bA n bc)/\w'.cell? ⟨wu.heap.size+1+1,0,none⟩=some (.map (some (wu.heap.size+1)))/\w'.cell? ⟨wu.heap.size+1+1,1,none⟩=some (.map (some (w.heap.size+1+1)))/\(Builtin.len_ #[97] 3 #[.map (some (wu.heap.size+1))]).run Tryz.prog w'=.ok (.int .i64 (kl:Int)) w'
structure RyF (w wu:World) (pA:Option Addr) (pn pc:Nat) (bA:Option Addr) (n bc:Nat) (x y:Value) (kl:Nat) (L:NmF) (W:World):Prop where
 f:W.heap[wu.heap.size]?=some (.cells #[x,y,.slice pA pn pc,.slice bA n bc] 83 (0,0))
 n:W.heap[wu.heap.size+2]?=some (.cells #[.map (some (wu.heap.size+1)),.map (some (w.heap.size+1+1))] 99 (0,0))
 m:MapZ W (wu.heap.size+1) kl L
section
variable {w wu W W':World} {pA bA:Option Addr} {pn pc n bc kl:Nat} {x y:Value} {L:NmF}
theorem RyF.grown {row:Option Nat} (h:RyF w wu pA pn pc bA n bc x y kl L W) (hg:W.grownBy W' row) (hr:∀ b,row=some b->b<wu.heap.size\/wu.heap.size+3<=b):RyF w wu pA pn pc bA n bc x y kl L W':=by
 have hs:=(q_0.1 h.n).1;have hn:∀ b,wu.heap.size<=b->b<wu.heap.size+3->some b≠row:=fun b h1 h2 e=>by have:=hr b e.symm; omega
 exact ⟨(hg.block _ (by omega) (hn _ (by omega) (by omega))).trans h.f,(hg.block _ (by omega) (hn _ (by omega) (by omega))).trans h.n,h.m.grown hg (hn _ (by omega) (by omega))⟩
theorem RyF.below (h:RyF w wu pA pn pc bA n bc x y kl L W) (hb:Below W.heap.size W W'):RyF w wu pA pn pc bA n bc x y kl L W':=h.grown (z02 hb none) (fun b e=>by cases e)
theorem RyF.rdT (h:RyF w wu pA pn pc bA n bc x y kl L W):RyT w wu pA pn pc bA n bc kl W :=
 ⟨zcr 2 h.f,zcr 3 h.f,zcr 0 h.n,zcr 1 h.n,h.m.len _⟩
end
set_option linter.unusedSimpArgs false in
theorem zd2 {F:Nat->Prop} {D d:Nat} (gl:GlL) (fl:List Fn) (gA:Option Addr) (gn gc:Nat) (fA:Option Addr) (fn fc:Nat) (w:World) (hgn:gn=gl.length) (hfn:fn=fl.length) (hg:z0k F w gl gA gc) (hf:z0R F w D d fl fA fc) (hF:∀ b,F b->b<w.heap.size) (hg1:gl.length<=1000) (hf1:fl.length<=1000) (hgs:∀ x∈gl,x.1.size<=1000) (hok:∀ f∈fl,zar f) :
  Calls Tryz.prog 16 #[.agg #[.slice gA gn gc,.slice fA fn fc]] w (RdZ D d gl fl w):=by
 have hgc:gn<=gc:=by rw [hgn]; exact hg.1
 have hfc:fn<=fc:=by rw [hfn]; exact hf.1
 have hS0:RyS w w (.slice gA gn gc) (.slice fA fn fc) (.slice none 0 0) (.slice none 0 0) 0 nilF (((w.alloc (.cells #[.slice gA gn gc,.slice fA fn fc] 31)).alloc (.cells #[.slice none 0 0,.slice none 0 0] 55)).alloc (.map #[] 0)) :=
  ⟨by rw [q_5 _ _ (by simp; omega)]; exact z14 w _ _,by rw [q_5 _ _ (by simp)]; exact z0T w _ _,by
   have:=MapZ.new ((w.alloc (.cells #[.slice gA gn gc,.slice fA fn fc] 31)).alloc (.cells #[.slice none 0 0,.slice none 0 0] 55));simpa using this,(((q_i _ w).alloc (q_2 _) _).alloc (by simp) _).alloc (by simp; omega) _,by simp; omega,fun b h1 h2=>by omega⟩
 have HS0:=zhi hS0;have Hgn:=zhi hgn;have Hfn:=zhi hfn;have Hg:=zhi hg;have Hf:=zhi hf;have HF:=zhi hF;have Hgs:=zhi hgs;have Hok:=zhi hok;have Hf1:=zhi hf1;have hgn1:gn<=1000:=by omega
 have hfn1:fn<=1000:=by omega
 have hmm:=@run_makeMap Tryz.prog;clear hS0 hgn hfn hg hf hF hgs hok hg1 hf1;go_enter Tryz.func16,Tryz.ntmps16;go_upto_region 2 with fail;obtain ⟨W0,hW0⟩:∃ W0,W0=((w.alloc (.cells #[.slice gA gn gc,.slice fA fn fc] 31)).alloc (.cells #[.slice none 0 0,.slice none 0 0] 55)).alloc (.map #[] 0):=⟨_,rfl⟩;rw [<- hW0] at HS0 ⊢;clear hW0 hmm;have p0:=zcr 0 HS0.out.p;go_wp2_with fail
 go_loopw [17] (fun v wr=>LpA gl w (.slice gA gn gc) (.slice fA fn fc) v wr) (fun v _=>gn - (intOf v).toNat)
 case atStart=>exact ⟨0,0,none,0,0,[],rfl,q_h _,rfl,q_2 _,HS0.out,GRow.nil⟩
 case round =>
  obtain ⟨wo,rfl⟩:∃ wo:World,wo=wr:=⟨_,rfl⟩;obtain ⟨k,ko,A,n,c,L,rfl,hk,hn,hko,hr,hgr⟩:=hrel;clear p0;have HR:=zhi hr;have HGR:=zhi hgr;have Hn:=zhi hn;have hszR:=hr.size;rcases q_f k gn with hlt | hge
  ·obtain ⟨x,hx⟩:∃ x,gl[k]?=some x:=⟨gl[k]'(by rw [<- Hgn.out]; exact hlt),q_7 _⟩;obtain ⟨g,rfl,hFg,e0,e1⟩:=Hg.out.2 k x hx;have hkk:∀ o,World.cell? wo ⟨g,o,none⟩=World.cell? w ⟨g,o,none⟩:=fun o=>q_6 (hr.lo.block g (HF.out g hFg))
   have n0:=(hkk _).trans e0;have n1:=(hkk _).trans e1;have hxs:x.1.size<=1000:=Hgs.out x (q_a hx);obtain ⟨s,m⟩:=x;dsimp only at n0 n1 hxs e0 e1;have hb1:=(q_i _ wo).alloc (q_2 _) (.cells #[.string s,.int .i64 m] 68);have hX1:=q_4 wo (.cells #[.string s,.int .i64 m] 68);obtain ⟨w4,ko4,hput,hko4,hr4,hg4⟩:=(hr.below hb1).putO (by omega) s (by unfold maxLen; omega) k (by omega);have hX4:=z04 hg4 (by omega) hX1;have b0:=zcr 0 hX1;have b1:=zcr 1 hX4;have q0:=zcr 0 hr4.q;have hgr4:=z1f z0f (z15 z0f hgr hb1) hg4 (fun b e=>by injection e with e; omega);have hs4:wo.heap.size<w4.heap.size:=(q_0.1 hX4).1;have HR4:=zhi hr4;have HG4:=zhi hgr4;have HX:=zhi hx;clear hr hgr hb1 hX1 hg4 hX4 hr4 hgr4 HR HGR hkk e0 e1 hx hn;have hlm:(szI (gl.take k)).length=k:=by rw [zdi,List.length_take]; omega
   have hkn:k<=gn:=by omega
   go_wp2_with (at_builtin; refine z07.out ?_)
   all_goals
    refine z07.of (z1n (k:=1) (T:=3) (S:=23) (V:=ZInt) w4 rfl (.tmp 27) (.tmp 31) rfl z0f (.int .i64 0) 8 Tryz.underlying23 z2E rfl (by decide) (by decide) (w.heap.size+3) (.slice A n c) (szI (gl.take k)) L _ _ (fun _=>False) rfl rfl HG4.out (by rw [hlm]; omega) (by omega) rfl (by simp [Value.oneCell']) rfl (fun b hb=>hb.elim) ?_);intro g7 cap7 w7 har7 hg7 hat7;rw [hlm] at har7 ⊢;have hr7:=HR4.out.grown hg7 (fun b hb=>⟨(HG4.out.own.lt b hb).1,by have:=(HG4.out.own.lt b hb).1; omega⟩);have q7:=zcr 0 hr7.q;have f7:=z09 hr7.q 0;obtain ⟨hr8,hg8⟩:=hr7.put0 (v:=.slice (some ⟨g7,0,none⟩) (k+1) cap7);have har8:=z1f z0f har7 hg8 (fun b e=>by injection e with e; omega);have HS8:Hid (LpA gl w (.slice (some ⟨g,0,none⟩) gn gc) (.slice fA fn fc) (.int .i64 ((k:Int)+1)) (w7.setCell ⟨w.heap.size+1,0,none⟩ (.slice (some ⟨g7,0,none⟩) (k+1) cap7))):=zhi ⟨k+1,ko4,_,_,_,_,by simp,by have:=Hgn.out; omega,rfl,by omega,by rw [z3o (·.1) nilF HX.out rfl]; exact hr8,by
     rw [zbo HX.out]
     first
      | (rw [show max ((s,m):Zb × Int).2 1=m by show max m 1=m; omega]; exact har8)
      | (rw [show max ((s,m):Zb × Int).2 1=1 by show max m 1=1; omega]; exact har8)⟩
    clear hr7 hr8 hg8 har7 har8 hg7 hat7 HR4 HG4;go_wp2_with fail;exact ⟨HS8.out,by simp [intOf]; omega⟩
  ·have hkg:k=gn:=by have:=Hgn.out; omega
   subst hkg;have hO1:z1k nilF 0 ((gl.take k).map (·.1))=z1k nilF 0 (gl.map (·.1)):=by rw [Hgn.out,List.take_length]
   have hz1:szI (gl.take k)=szI gl:=by rw [Hgn.out,List.take_length]
   rw [hO1] at hr;rw [hz1] at hgr;have hSz:=(hgr.row z0f).2;have hB:=hr.rebase;have HB:=zhi hB;have HSz:=zhi hSz;have hszB:=hB.size;have p1:=zcr 1 hr.p;clear hr hgr hB hSz HR HGR hO1 hz1 HS0 hn;go_wp2_with fail
   go_loopw [38] (fun v wr=>LpB fl (z1k nilF 0 (gl.map (·.1))) k w wo (.slice gA k gc) (.slice fA fn fc) (.slice A n c) v wr) (fun v _=>fn - (intOf v).toNat)
   case atStart=>exact ⟨0,ko,rfl,q_h _,hko,HB.out⟩
   case round =>
    obtain ⟨wp,rfl⟩:∃ wp:World,wp=wr:=⟨_,rfl⟩;obtain ⟨j,kj,rfl,hj,hkj,hr⟩:=hrel;clear p1 HB;have HR:=zhi hr;have hszR:=hr.size;rcases q_f j fn with hlt | hge2
    ·obtain ⟨f,hf⟩:∃ f,fl[j]?=some f:=⟨fl[j]'(by rw [<- Hfn.out]; exact hlt),q_7 _⟩;obtain ⟨g,pA,pc,bA,bc,rfl,hFg,e0,e1,e2,e3,_,_⟩:=Hf.out.2 j f hf;have hkk:∀ o,World.cell? wp ⟨g,o,none⟩=World.cell? w ⟨g,o,none⟩:=fun o=>q_6 (hr.lo.block g (HF.out g hFg))
     have n0:=(hkk _).trans e0;have n1:=(hkk _).trans e1;have n2:=(hkk _).trans e2;have n3:=(hkk _).trans e3;have hnm:=(Hok.out f (q_a hf)).nm;have hb1:=(q_i _ wp).alloc (q_2 _) (.cells #[.string f.name,.int .i64 f.line,.slice pA f.params.length pc,.slice bA f.body.length bc] 83);have hX1:=q_4 wp (.cells #[.string f.name,.int .i64 f.line,.slice pA f.params.length pc,.slice bA f.body.length bc] 83);obtain ⟨w4,ko4,hput,hko4,hr4,hg4⟩:=(hr.below hb1).putO (by omega) f.name (by unfold maxLen; omega) j (by omega);have b0:=zcr 0 hX1;have HE:Hid (LpB fl (z1k nilF 0 (gl.map (·.1))) k w wo (.slice gA k gc) (.slice (some ⟨g,0,none⟩) fn fc) (.slice A n c) (.int .i64 ((j:Int)+1)) w4):=zhi ⟨j+1,ko4,by simp,by have:=Hfn.out; omega,by omega,by rw [z3o (·.name) _ hf rfl]; exact hr4⟩;clear hr hkk e0 e1 e2 e3 hb1 hX1 hr4 hg4 HR hf;go_wp2_with fail;exact ⟨HE.out,by simp [intOf]; omega⟩
    ·have hjf:j=fn:=by have:=Hfn.out; omega
     subst hjf;have hO2:z1k (z1k nilF 0 (gl.map (·.1))) 0 ((fl.take j).map (·.name))=outF gl fl:=by rw [Hfn.out,List.take_length]; rfl
     rw [hO2] at hr;have p1:=zcr 1 hr.p;have HB:=zhi hr;clear hr HR hO2;go_wp2_with fail
     go_loopw [51] (fun v wr=>LpC D d fl (outF gl fl) kj w wo (.slice gA k gc) (.slice fA j fc) (.slice A n c) v wr) (fun v _=>j - (intOf v).toNat)
     case atStart=>exact ⟨0,none,0,0,[],rfl,q_h _,rfl,HB.out,GRow.nil⟩
     case round =>
      obtain ⟨fn,rfl⟩:∃ fn,fn=j:=⟨_,rfl⟩;obtain ⟨wu,rfl⟩:∃ wu:World,wu=wr:=⟨_,rfl⟩;obtain ⟨i,qA,qn,qc,L3,rfl,hi,hqn,hr,hgr⟩:=hrel;clear p1 HB;have hszR:=hr.size;have hmlR:=hr.ml;have Hqn:=zhi hqn;clear hqn;rcases q_f i fn with hlt | hge3
      ·obtain ⟨f,hfi⟩:∃ f,fl[i]?=some f:=⟨fl[i]'(by rw [<- Hfn.out]; exact hlt),q_7 _⟩;obtain ⟨g,pA,pc,bA,bc,rfl,hFg,e0,e1,e2,e3,hps,hbs⟩:=Hf.out.2 i f hfi;have hkk:∀ o,World.cell? wu ⟨g,o,none⟩=World.cell? w ⟨g,o,none⟩:=fun o=>q_6 (hr.lo.block g (HF.out g hFg))
       have hfo:=Hok.out f (q_a hfi);obtain ⟨pn,hpn⟩:∃ pn,pn=f.params.length:=⟨_,rfl⟩;obtain ⟨bn,hbn⟩:∃ bn,bn=f.body.length:=⟨_,rfl⟩;rw [<- hpn] at e2;rw [<- hbn] at e3;have n0:=(hkk _).trans e0;have n1:=(hkk _).trans e1;have n2:=(hkk _).trans e2;have n3:=(hkk _).trans e3;have hmm:=@run_makeMap Tryz.prog;have hb1:=(q_i _ wu).alloc (q_2 _) (.cells #[.string f.name,.int .i64 f.line,.slice pA pn pc,.slice bA bn bc] 83);have hb2:=hb1.alloc hb1.size (.map #[] 0);have hb3:=hb2.alloc hb2.size (.cells #[.map (some (wu.heap.size+1)),.map (some (w.heap.size+1+1))] 99);have hf3:(((wu.alloc (.cells #[.string f.name,.int .i64 f.line,.slice pA pn pc,.slice bA bn bc] 83)).alloc (.map #[] 0)).alloc (.cells #[.map (some (wu.heap.size+1)),.map (some (w.heap.size+1+1))] 99)).heap[wu.heap.size]?=some (.cells #[.string f.name,.int .i64 f.line,.slice pA pn pc,.slice bA bn bc] 83 (0,0)):=by
        rw [q_5 _ _ (by simp; omega)];exact z14 wu _ _
       have hm3:MapZ (((wu.alloc (.cells #[.string f.name,.int .i64 f.line,.slice pA pn pc,.slice bA bn bc] 83)).alloc (.map #[] 0)).alloc (.cells #[.map (some (wu.heap.size+1)),.map (some (w.heap.size+1+1))] 99)) (wu.heap.size+1) 0 nilF:=by
        have h:=MapZ.new (wu.alloc (.cells #[.string f.name,.int .i64 f.line,.slice pA pn pc,.slice bA bn bc] 83));have h2:=h.kept (((q_i _ _).alloc (q_2 _) (.cells #[.map (some (wu.heap.size+1)),.map (some (w.heap.size+1+1))] 99)).block _ h.lt);simpa using h2
       have hn3:(((wu.alloc (.cells #[.string f.name,.int .i64 f.line,.slice pA pn pc,.slice bA bn bc] 83)).alloc (.map #[] 0)).alloc (.cells #[.map (some (wu.heap.size+1)),.map (some (w.heap.size+1+1))] 99)).heap[wu.heap.size+2]?=some (.cells #[.map (some (wu.heap.size+1)),.map (some (w.heap.size+1+1))] 99 (0,0)):=by
        have:=q_4 ((wu.alloc (.cells #[.string f.name,.int .i64 f.line,.slice pA pn pc,.slice bA bn bc] 83)).alloc (.map #[] 0)) (.cells #[.map (some (wu.heap.size+1)),.map (some (w.heap.size+1+1))] 99);simpa using this
       have hr3:=hr.below hb3;obtain ⟨names,hnames⟩:∃ names,names=f.params++vrL f.body:=⟨_,rfl⟩;have HLo:=zhi (zaT f.name f.line f.params f.body pA pn pc bA bn bc (((wu.alloc (.cells #[.string f.name,.int .i64 f.line,.slice pA pn pc,.slice bA bn bc] 83)).alloc (.map #[] 0)).alloc (.cells #[.map (some (wu.heap.size+1)),.map (some (w.heap.size+1+1))] 99)) hpn hbn ⟨hps.1,fun q x hq=>by
        obtain ⟨g,e,hFg,hc⟩:=hps.2 q x hq;exact ⟨g,e,hFg,(q_6 (hr3.lo.block g (HF.out g hFg))).trans hc⟩⟩ (RowS.keep (G:=F) (fun _ h=>h) (fun b hb'=>hr3.lo.block b (HF.out b hb')) hbs) (fun b hb'=>q_1 (HF.out b hb') hr3.lo.size) hfo.fw (by rw [hpn]; exact hfo.pl) (by rw [hbn]; exact hfo.bl) hfo.ct)
       rw [<- hnames] at HLo;have HX4:Hid (RyF w wu pA pn pc bA bn bc (.string f.name) (.int .i64 f.line) 0 nilF (((wu.alloc (.cells #[.string f.name,.int .i64 f.line,.slice pA pn pc,.slice bA bn bc] 83)).alloc (.map #[] 0)).alloc (.cells #[.map (some (wu.heap.size+1)),.map (some (w.heap.size+1+1))] 99))):=zhi ⟨hf3,hn3,hm3⟩;have HR4:=zhi hr3;have HGu:=zhi hgr;have HB3:=zhi hb3;have hsz3:wu.heap.size+3<=(((wu.alloc (.cells #[.string f.name,.int .i64 f.line,.slice pA pn pc,.slice bA bn bc] 83)).alloc (.map #[] 0)).alloc (.cells #[.map (some (wu.heap.size+1)),.map (some (w.heap.size+1+1))] 99)).heap.size:=by simp
       have HFi:=zhi hfi;have Hpn:=zhi hpn;have Hbn:=zhi hbn;have Hfo:=zhi hfo;have Hnames:=zhi hnames;have Hbs:=zhi hbs;have hbn1:bn<=1000000:=by rw [hbn]; exact hfo.bl
       have hbc:bn<=bc:=by rw [hbn]; exact hbs.1
       have hpc:pn<=pc:=by rw [hpn]; exact hps.1
       have HQb:=zhi (fun b hb=>(hgr.own.lt b hb).2);clear hkk hr hgr hb1 hb2 hb3 hf3 hm3 hn3 hr3 hfi hpn hbn hfo hnames hps hbs e0 e1 e2 e3;go_wp2_with fail;obtain ⟨W3,hW3⟩:∃ W3,W3=(((wu.alloc (.cells #[.string f.name,.int .i64 f.line,.slice pA pn pc,.slice bA bn bc] 83)).alloc (.map #[] 0)).alloc (.cells #[.map (some (wu.heap.size+1)),.map (some (w.heap.size+1+1))] 99)):=⟨_,rfl⟩;rw [<- hW3] at HLo HX4 HR4 HB3 hsz3 ⊢;clear hW3 n0 n1 n2 n3 hmm;refine HLo.out.mono ?_;rintro e w4 ⟨A4,c4,rfl,ho4,hb4⟩;obtain ⟨_,hnc,hst⟩:=zcW ho4;have HX5:=zhi (HX4.out.below hb4);have HR5:=zhi (HR4.out.below hb4);have HB4:=zhi (HB3.out.trans (hb4.mono (by omega)));have Hst:=zhi hst;have hs4:=hb4.size;obtain ⟨nn,hnn⟩:∃ nn,nn=names.length:=⟨_,rfl⟩;rw [<- hnn] at hnc ⊢;have Hnn:=zhi hnn;have hnn1:nn<=100000:=by
        rw [hnn,Hnames.out,List.length_append];exact Hfo.out.ct
       clear hb4 ho4 hst hnn HX4 HR4 HB3 HLo;go_wp2_with fail
       go_loopw [61] (fun v wr=>∃ t:Nat,v=.int .i64 (t:Int)/\t<=nn/\Hid (w4.grownBy wr (some (wu.heap.size+1)))/\Hid (MapZ wr (wu.heap.size+1) t (z1k nilF 0 (names.take t)))) (fun v _=>nn - (intOf v).toNat)
       case atStart=>exact ⟨0,rfl,q_h _,zhi (z02 (q_i _ _) _),zhi HX5.out.m⟩
       case round =>
        obtain ⟨wv,rfl⟩:∃ wv:World,wv=wr:=⟨_,rfl⟩;obtain ⟨t,rfl,ht,HGv,HMv⟩:=hrel;have hsv:=HGv.out.size;rcases q_f t nn with hlt4 | hge4
        ·obtain ⟨s,hs⟩:∃ s,names[t]?=some s:=⟨names[t]'(by rw [<- Hnn.out]; exact hlt4),q_7 _⟩;obtain ⟨g4,rfl,h41,h42,h43⟩:=Hst.out t s hs;have m0:World.cell? wv ⟨g4,t,none⟩=some (.string s):=(q_6 (HGv.out.block g4 h42 (fun e=>by injection e with e; omega))).trans h43;have hnb:=z04 HGv.out (by omega) HX5.out.n;have x0:World.cell? wv ⟨wu.heap.size+1+1,0,none⟩=some (.map (some (wu.heap.size+1))):=zcr 0 hnb;have hsm:s.size<=1000:=Hfo.out.ns s (by rw [<- Hnames.out]; exact q_a hs);have hno:z1k nilF 0 (names.take t) s=none:=by
          rw [(z0F (names.take t) nilF 0 s).2 (z7N (by rw [Hnames.out]; exact Hfo.out.nd) hs)];rfl
         obtain ⟨w7,hput,hm7,hg7⟩:=HMv.out.put (by omega) s (by unfold maxLen; omega) t (by omega);rw [hno] at hm7;have HE:Hid (MapZ w7 (wu.heap.size+1) (t+1) (z1k nilF 0 (names.take (t+1)))):=zhi (by
          have e:=z3o (l:=names) (fun s=>s) nilF hs rfl;simp only [List.map_id'] at e;rw [e];exact hm7)
         have HG7:=zhi (HGv.out.trans hg7);clear hnb hsm hno hm7 hg7 h43 HGv HMv hs;go_wp2_with fail;exact ⟨⟨t+1,by simp,by omega,HG7,HE⟩,by simp [intOf]; omega⟩
        ·have htn:t=nn:=by omega
         subst htn;obtain ⟨nn,rfl⟩:∃ nn,nn=t:=⟨_,rfl⟩;have hmv:=HMv.out;rw [Hnn.out,List.take_length,<- Hnn.out] at hmv;obtain ⟨w5,rfl⟩:∃ w5:World,w5=wv:=⟨_,rfl⟩;have hr5:=HR5.out.grown HGv.out (fun b e=>by injection e with e; omega);have hg5:=z15 (z0O D d) HGu.out (HB4.out.trans (z05 HGv.out (fun b e=>by injection e with e; omega) (by omega)));rw [Hnames.out] at hmv;have hx5:RyF w wu pA pn pc bA bn bc (.string f.name) (.int .i64 f.line) nn (locF f) w5:=⟨z04 HGv.out (by omega) HX5.out.f,z04 HGv.out (by omega) HX5.out.n,hmv⟩;clear HR5 HX5 HB4 HMv HGv hmv HGu;have HR5:=zhi hr5;have HG5:=zhi hg5;have HX5:=zhi hx5;go_upto_region 22 with fail;have hsz5:=hr5.size;have q1:=zcr 1 hr5.q;have f2:=zcr 2 hx5.f;have f3:=zcr 3 hx5.f;have x0:w5.cell? ⟨wu.heap.size+1+1,0,none⟩=some (.map (some (wu.heap.size+1))):=zcr 0 hx5.n;have x1:w5.cell? ⟨wu.heap.size+1+1,1,none⟩=some (.map (some (w.heap.size+1+1))):=zcr 1 hx5.n;have hbd:Below w5.heap.size w5 w5.drew:=z0m (q_i _ w5);have hl:=(hx5.below hbd).m.len 3;have HBk:Hid (Calls Tryz.prog 35 #[.agg #[.map (some (wu.heap.size+1)),.map (some (w.heap.size+1+1))],.slice bA bn bc] w5.drew (BlZ D d (nB (locF f) (outF gl fl) f.body) w5.drew)):=zhi (zc0 D d F _ _ nn kj (locF f) (outF gl fl) f.body bA bn bc w5.drew (RowS.keep (G:=F) (fun _ h=>h) (fun b hb'=>hr5.lo.block b (HF.out b hb')) Hbs.out) Hbn.out Hfo.out.sz hbn1 (fun b hb'=>q_1 (HF.out b hb') hr5.lo.size) (hx5.below hbd).m (hr5.below hbd).o);have HBD:=zhi hbd;have hlm:((fl.take i).map (nF (outF gl fl))).length=i:=by rw [List.length_map,List.length_take]; omega
         have hi1:i<=1000:=by omega
         have hwu5:wu.heap.size<=w5.heap.size:=by omega
         clear hr5 hg5 hx5 hbd Hst Hbs Hfo hnc;have HXD:=zhi (HX5.out.below HBD.out);have hSd:=HXD.out.rdT;refine wp_region_held_drew (S:=RyT w wu pA pn pc bA bn bc nn) (by kernel_rfl) hSd (fun hHeld=>?_);simp only [List.size_toArray,List.length_cons,List.length_nil,Nat.zero_add,Nat.reduceAdd];refine wpAnyH_take (i:=0) (v:=?_) rfl (by kernel_rfl) (by kernel_rfl) (by kernel_rfl) (fun _ _ _ h=>h) (Or.inl ⟨by rfl,?_⟩) (by assumption) ?_
         rotate_left
         ·intro w hSw
          (try unfold RyT at hSw)
          go_simp
          (try with_reducible rfl)
         try simp only [List.getElem_toArray,List.getElem_cons_zero,List.getElem_cons_succ,Act.put,List.setIfInBounds_toArray,List.set_cons_zero,List.set_cons_succ]
         refine wpAnyH_take (i:=2) (v:=?_) rfl (by kernel_rfl) (by kernel_rfl) (by kernel_rfl) (fun _ _ _ h=>h) (Or.inl ⟨by rfl,?_⟩) (by assumption) ?_
         rotate_left
         ·intro w hSw
          (try unfold RyT at hSw)
          go_simp
          (try with_reducible rfl)
         try simp only [List.getElem_toArray,List.getElem_cons_zero,List.getElem_cons_succ,Act.put,List.setIfInBounds_toArray,List.set_cons_zero,List.set_cons_succ]
         refine wpAnyH_take (i:=3) (v:=?_) rfl (by kernel_rfl) (by kernel_rfl) (by kernel_rfl) (fun _ _ _ h=>h) (Or.inl ⟨by rfl,?_⟩) (by assumption) ?_
         rotate_left
         ·intro w hSw
          (try unfold RyT at hSw)
          go_simp
          (try with_reducible rfl)
         try simp only [List.getElem_toArray,List.getElem_cons_zero,List.getElem_cons_succ,Act.put,List.setIfInBounds_toArray,List.set_cons_zero,List.set_cons_succ]
         refine wpAnyH_take (i:=4) (v:=?_) rfl (by kernel_rfl) (by kernel_rfl) (by kernel_rfl) (fun _ _ _ h=>h) (Or.inl ⟨by rfl,?_⟩) (by assumption) ?_
         rotate_left
         ·intro w hSw
          (try unfold RyT at hSw)
          go_simp
          (try with_reducible rfl)
         try simp only [List.getElem_toArray,List.getElem_cons_zero,List.getElem_cons_succ,Act.put,List.setIfInBounds_toArray,List.set_cons_zero,List.set_cons_succ]
         refine wpAnyH_take (i:=5) (v:=?_) rfl (by kernel_rfl) (by kernel_rfl) (by kernel_rfl) (fun _ _ _ h=>h) (Or.inl ⟨by rfl,?_⟩) (by assumption) ?_
         rotate_left
         ·intro w hSw
          (try unfold RyT at hSw)
          go_simp
          (try with_reducible rfl)
         try simp only [List.getElem_toArray,List.getElem_cons_zero,List.getElem_cons_succ,Act.put,List.setIfInBounds_toArray,List.set_cons_zero,List.set_cons_succ]
         refine wpAnyH_take (i:=6) (v:=?_) rfl (by kernel_rfl) (by kernel_rfl) (by kernel_rfl) (fun _ _ _ h=>h) (Or.inl ⟨by rfl,?_⟩) (by assumption) ?_
         rotate_left
         ·intro w hSw
          (try unfold RyT at hSw)
          go_simp
          (try with_reducible rfl)
         try simp only [List.getElem_toArray,List.getElem_cons_zero,List.getElem_cons_succ,Act.put,List.setIfInBounds_toArray,List.set_cons_zero,List.set_cons_succ]
         refine wpAnyH_take (i:=7) (v:=?_) rfl (by kernel_rfl) (by kernel_rfl) (by kernel_rfl) (fun _ _ _ h=>h) (Or.inl ⟨by rfl,?_⟩) (by assumption) ?_
         rotate_left
         ·intro w hSw
          (try unfold RyT at hSw)
          go_simp
          (try with_reducible rfl)
         try simp only [List.getElem_toArray,List.getElem_cons_zero,List.getElem_cons_succ,Act.put,List.setIfInBounds_toArray,List.set_cons_zero,List.set_cons_succ]
         refine wpAnyH_take (i:=8) (v:=?_) rfl (by kernel_rfl) (by kernel_rfl) (by kernel_rfl) (fun _ _ _ h=>h) (Or.inl ⟨by rfl,?_⟩) (by assumption) ?_
         rotate_left
         ·intro w hSw
          (try unfold RyT at hSw)
          go_simp
          (try with_reducible rfl)
         try simp only [List.getElem_toArray,List.getElem_cons_zero,List.getElem_cons_succ,Act.put,List.setIfInBounds_toArray,List.set_cons_zero,List.set_cons_succ]
         refine wpAnyH_take (i:=9) (v:=?_) rfl (by kernel_rfl) (by kernel_rfl) (by kernel_rfl) (fun _ _ _ h=>h) (Or.inl ⟨by rfl,?_⟩) (by assumption) ?_
         rotate_left
         ·intro w hSw
          (try unfold RyT at hSw)
          go_simp
          (try with_reducible rfl)
         try simp only [List.getElem_toArray,List.getElem_cons_zero,List.getElem_cons_succ,Act.put,List.setIfInBounds_toArray,List.set_cons_zero,List.set_cons_succ]
         refine wpAnyH_take (i:=10) (v:=?_) rfl (by kernel_rfl) (by kernel_rfl) (by kernel_rfl) (fun _ _ _ h=>h) (Or.inl ⟨by rfl,?_⟩) (by assumption) ?_
         rotate_left
         ·intro w hSw
          (try unfold RyT at hSw)
          go_simp
          (try with_reducible rfl)
         try simp only [List.getElem_toArray,List.getElem_cons_zero,List.getElem_cons_succ,Act.put,List.setIfInBounds_toArray,List.set_cons_zero,List.set_cons_succ]
         refine wpAnyH_ready (rs:=[1,11]) (by decide +kernel) (by simp) ?_;refine AllReadyH.cons rfl (fun K hK=>?_) (AllReadyH.cons rfl (fun K hK=>?_) AllReadyH.nil)
         ·dsimp only [List.getElem_toArray,List.getElem_cons_zero,List.getElem_cons_succ]
          go_simp
          refine hK.out _ _ HXD.out.rdT (fun hHeld=>?_);clear hK K
          try simp only [Act.put,List.setIfInBounds_toArray,List.set_cons_zero,List.set_cons_succ]
          refine wpAnyH_ready (rs:=[11]) (by decide +kernel) (by simp) ?_;refine AllReadyH.cons rfl (fun K hK=>?_) AllReadyH.nil;dsimp only [List.getElem_toArray,List.getElem_cons_zero,List.getElem_cons_succ]
          go_simp
          go_at_call 35
          (with_reducible refine HBk.out.mono ?_)
          rintro e w14 ⟨A14,m14,c14,rfl,hm14,hrow14,hb14⟩;have hb14':=HBD.out.trans hb14;have hr14:=HR5.out.below hb14';have hs14:=hb14.size;have HV14:Hid (MFz D d (fun b=>w5.heap.size<=b/\b<w14.heap.size) w14 (nF (outF gl fl) f) [.int .i64 (pn:Int),.int .i64 (nn:Int),.slice A14 m14 c14]):=zhi ⟨A14,c14,by rw [Hpn.out,Hnn.out,Hnames.out,hm14]; rfl,hrow14⟩;have hsz14:=hr14.size;have HG14:=zhi (z15 (z0O D d) HG5.out hb14');have HOB14:=zhi (fun b hb=>(HG5.out.own.lt b hb).2);have hml14:=hr14.ml;have HR14:=zhi hr14;have HX14:=zhi (HX5.out.below hb14');have HX14a:=zhi (HX14.out.below ((q_i _ _).alloc (q_2 _) (.cells #[.int .i64 (pn:Int),.int .i64 (nn:Int),.slice A14 m14 c14] 103)));have q14:=zcr 1 hr14.q;have q14':=hold ((q_i _ _).alloc (q_2 _) (.cells #[.int .i64 (pn:Int),.int .i64 (nn:Int),.slice A14 m14 c14] 103)) q14;clear hrow14 hb14 hb14' hr14 hm14;dsimp only;refine hK.out _ _ HX14.out.rdT (fun hHeld=>?_);clear hK K
          try simp only [Act.put,List.setIfInBounds_toArray,List.set_cons_zero,List.set_cons_succ]
          refine wpAnyH_take (i:=12) (v:=?_) rfl (by kernel_rfl) (by kernel_rfl) (by kernel_rfl) (fun _ _ _ h=>h) (Or.inl ⟨by rfl,?_⟩) (by assumption) ?_
          rotate_left
          ·intro w hSw
           (try unfold RyT at hSw)
           go_simp
           (try with_reducible rfl)
          try simp only [List.getElem_toArray,List.getElem_cons_zero,List.getElem_cons_succ,Act.put,List.setIfInBounds_toArray,List.set_cons_zero,List.set_cons_succ]
          refine wpAnyH_ready (rs:=[13]) (by decide +kernel) (by simp) ?_;refine AllReadyH.cons rfl (fun K hK=>?_) AllReadyH.nil;dsimp only [List.getElem_toArray,List.getElem_cons_zero,List.getElem_cons_succ]
          go_simp
          refine hK.out _ _ HX14a.out.rdT (fun hHeld=>?_);clear hK K
          try simp only [Act.put,List.setIfInBounds_toArray,List.set_cons_zero,List.set_cons_succ]
          refine wpAnyH_ready (rs:=[14]) (by decide +kernel) (by simp) ?_;refine AllReadyH.cons rfl (fun K hK=>?_) AllReadyH.nil;refine z2l (k:=3) (T:=103) (S:=53) (V:=MFz D d) w14 ?_ (.tmp 72) (.tmp 84) ?_ (z0O D d) (.agg #[.int .i64 0,.int .i64 0,.slice none 0 0]) 40 Tryz.underlying53 z6p rfl (by decide) (by decide) wo.heap.size (.slice qA qn qc) ((fl.take i).map (nF (outF gl fl))) L3 (nF (outF gl fl) f) [.int .i64 (pn:Int),.int .i64 (nn:Int),.slice A14 m14 c14] (fun b=>w5.heap.size<=b/\b<w14.heap.size) ?_ ?_ HG14.out (by rw [hlm]; omega) hml14 rfl (by simp [Value.oneCell']) HV14.out (fun b hb=>⟨by omega,hb.2,fun e=>by have:=HOB14.out b e; omega⟩) ?_
          ·rfl
          ·rfl
          ·rfl
          ·rfl
          intro g15 cap15 w15 hgr15 hg15 _;have hr15:=HR14.out.grown hg15 (fun b hb=>by have:=(HG14.out.own.lt b hb).1; exact ⟨by omega,this⟩);have v1:=zcr 1 hr15.q;have t1:=z09 hr15.q 1;have hx15:=HX14.out.grown hg15 (fun b hb=>by have:=HQb.out b hb; omega);obtain ⟨hr16,hg16⟩:=hr15.put1 (v:=.slice (some ⟨g15,0,none⟩) (i+1) cap15);have hx16:=hx15.grown hg16 (fun b e=>by injection e with e; omega);have hgr16:=z1f (z0O D d) hgr15 hg16 (fun b e=>by injection e with e; omega);rw [hlm] at hgr16;have HE:Hid (LpC D d fl (outF gl fl) kj w wo (.slice gA k gc) (.slice (some ⟨g,0,none⟩) fn fc) (.slice A n c) (.int .i64 ((i:Int)+1)) (w15.setCell ⟨w.heap.size+1,1,none⟩ (.slice (some ⟨g15,0,none⟩) (i+1) cap15))):=zhi ⟨i+1,_,_,_,_,by simp,by have:=Hfn.out; omega,rfl,hr16,by rw [z29 _ _ _ _ HFi.out]; exact hgr16⟩;rw [hlm];refine hK.out _ _ hx15.rdT (fun hHeld=>?_);clear hK K
          try simp only [List.getElem_toArray,List.getElem_cons_zero,List.getElem_cons_succ,Act.put,List.setIfInBounds_toArray,List.set_cons_zero,List.set_cons_succ]
          refine wpAnyH_take (i:=15) (v:=?_) rfl (by kernel_rfl) (by kernel_rfl) (by kernel_rfl) (fun _ _ _ h=>h) (Or.inl ⟨by rfl,?_⟩) (by assumption) ?_
          rotate_left
          ·intro w hSw
           (try unfold RyT at hSw)
           go_simp
           (try with_reducible rfl)
          try simp only [List.getElem_toArray,List.getElem_cons_zero,List.getElem_cons_succ,Act.put,List.setIfInBounds_toArray,List.set_cons_zero,List.set_cons_succ]
          refine wpAnyH_ready (rs:=[16]) (by decide +kernel) (by simp) ?_;refine AllReadyH.cons rfl (fun K hK=>?_) AllReadyH.nil;dsimp only [List.getElem_toArray,List.getElem_cons_zero,List.getElem_cons_succ]
          go_simp
          refine hK.out _ _ hx16.rdT (fun hHeld=>?_);clear hK K
          try simp only [Act.put,List.setIfInBounds_toArray,List.set_cons_zero,List.set_cons_succ]
          refine wpAnyH_done (by decide +kernel) ?_ _;clear hHeld v1 t1 hr15 hx15 hr16 hg16 hx16 hgr15 hg15 hgr16;go_wp2_with fail;refine ⟨?_,?_⟩
          ·first | exact HE.out | ((repeat (with_reducible apply Exists.intro)); exact ⟨HE.out,rfl⟩)
          ·simp [intOf]; omega
         ·dsimp only [List.getElem_toArray,List.getElem_cons_zero,List.getElem_cons_succ]
          go_simp
          go_at_call 35
          (with_reducible refine HBk.out.mono ?_)
          rintro e w14 ⟨A14,m14,c14,rfl,hm14,hrow14,hb14⟩;have hb14':=HBD.out.trans hb14;have hr14:=HR5.out.below hb14';have hs14:=hb14.size;have HV14:Hid (MFz D d (fun b=>w5.heap.size<=b/\b<w14.heap.size) w14 (nF (outF gl fl) f) [.int .i64 (pn:Int),.int .i64 (nn:Int),.slice A14 m14 c14]):=zhi ⟨A14,c14,by rw [Hpn.out,Hnn.out,Hnames.out,hm14]; rfl,hrow14⟩;have hsz14:=hr14.size;have HG14:=zhi (z15 (z0O D d) HG5.out hb14');have HOB14:=zhi (fun b hb=>(HG5.out.own.lt b hb).2);have hml14:=hr14.ml;have HR14:=zhi hr14;have HX14:=zhi (HX5.out.below hb14');have HX14a:=zhi (HX14.out.below ((q_i _ _).alloc (q_2 _) (.cells #[.int .i64 (pn:Int),.int .i64 (nn:Int),.slice A14 m14 c14] 103)));have q14:=zcr 1 hr14.q;have q14':=hold ((q_i _ _).alloc (q_2 _) (.cells #[.int .i64 (pn:Int),.int .i64 (nn:Int),.slice A14 m14 c14] 103)) q14;clear hrow14 hb14 hb14' hr14 hm14;dsimp only;refine hK.out _ _ HX14.out.rdT (fun hHeld=>?_);clear hK K
          try simp only [Act.put,List.setIfInBounds_toArray,List.set_cons_zero,List.set_cons_succ]
          refine wpAnyH_take (i:=12) (v:=?_) rfl (by kernel_rfl) (by kernel_rfl) (by kernel_rfl) (fun _ _ _ h=>h) (Or.inl ⟨by rfl,?_⟩) (by assumption) ?_
          rotate_left
          ·intro w hSw
           (try unfold RyT at hSw)
           go_simp
           (try with_reducible rfl)
          try simp only [List.getElem_toArray,List.getElem_cons_zero,List.getElem_cons_succ,Act.put,List.setIfInBounds_toArray,List.set_cons_zero,List.set_cons_succ]
          refine wpAnyH_ready (rs:=[1,13]) (by decide +kernel) (by simp) ?_;refine AllReadyH.cons rfl (fun K hK=>?_) (AllReadyH.cons rfl (fun K hK=>?_) AllReadyH.nil)
          ·dsimp only [List.getElem_toArray,List.getElem_cons_zero,List.getElem_cons_succ]
           go_simp
           refine hK.out _ _ HX14.out.rdT (fun hHeld=>?_);clear hK K
           try simp only [Act.put,List.setIfInBounds_toArray,List.set_cons_zero,List.set_cons_succ]
           refine wpAnyH_ready (rs:=[13]) (by decide +kernel) (by simp) ?_;refine AllReadyH.cons rfl (fun K hK=>?_) AllReadyH.nil;dsimp only [List.getElem_toArray,List.getElem_cons_zero,List.getElem_cons_succ]
           go_simp
           refine hK.out _ _ HX14a.out.rdT (fun hHeld=>?_);clear hK K
           try simp only [Act.put,List.setIfInBounds_toArray,List.set_cons_zero,List.set_cons_succ]
           refine wpAnyH_ready (rs:=[14]) (by decide +kernel) (by simp) ?_;refine AllReadyH.cons rfl (fun K hK=>?_) AllReadyH.nil;refine z2l (k:=3) (T:=103) (S:=53) (V:=MFz D d) w14 ?_ (.tmp 72) (.tmp 84) ?_ (z0O D d) (.agg #[.int .i64 0,.int .i64 0,.slice none 0 0]) 40 Tryz.underlying53 z6p rfl (by decide) (by decide) wo.heap.size (.slice qA qn qc) ((fl.take i).map (nF (outF gl fl))) L3 (nF (outF gl fl) f) [.int .i64 (pn:Int),.int .i64 (nn:Int),.slice A14 m14 c14] (fun b=>w5.heap.size<=b/\b<w14.heap.size) ?_ ?_ HG14.out (by rw [hlm]; omega) hml14 rfl (by simp [Value.oneCell']) HV14.out (fun b hb=>⟨by omega,hb.2,fun e=>by have:=HOB14.out b e; omega⟩) ?_
           ·rfl
           ·rfl
           ·rfl
           ·rfl
           intro g15 cap15 w15 hgr15 hg15 _;have hr15:=HR14.out.grown hg15 (fun b hb=>by have:=(HG14.out.own.lt b hb).1; exact ⟨by omega,this⟩);have v1:=zcr 1 hr15.q;have t1:=z09 hr15.q 1;have hx15:=HX14.out.grown hg15 (fun b hb=>by have:=HQb.out b hb; omega);obtain ⟨hr16,hg16⟩:=hr15.put1 (v:=.slice (some ⟨g15,0,none⟩) (i+1) cap15);have hx16:=hx15.grown hg16 (fun b e=>by injection e with e; omega);have hgr16:=z1f (z0O D d) hgr15 hg16 (fun b e=>by injection e with e; omega);rw [hlm] at hgr16;have HE:Hid (LpC D d fl (outF gl fl) kj w wo (.slice gA k gc) (.slice (some ⟨g,0,none⟩) fn fc) (.slice A n c) (.int .i64 ((i:Int)+1)) (w15.setCell ⟨w.heap.size+1,1,none⟩ (.slice (some ⟨g15,0,none⟩) (i+1) cap15))):=zhi ⟨i+1,_,_,_,_,by simp,by have:=Hfn.out; omega,rfl,hr16,by rw [z29 _ _ _ _ HFi.out]; exact hgr16⟩;rw [hlm];refine hK.out _ _ hx15.rdT (fun hHeld=>?_);clear hK K
           try simp only [List.getElem_toArray,List.getElem_cons_zero,List.getElem_cons_succ,Act.put,List.setIfInBounds_toArray,List.set_cons_zero,List.set_cons_succ]
           refine wpAnyH_take (i:=15) (v:=?_) rfl (by kernel_rfl) (by kernel_rfl) (by kernel_rfl) (fun _ _ _ h=>h) (Or.inl ⟨by rfl,?_⟩) (by assumption) ?_
           rotate_left
           ·intro w hSw
            (try unfold RyT at hSw)
            go_simp
            (try with_reducible rfl)
           try simp only [List.getElem_toArray,List.getElem_cons_zero,List.getElem_cons_succ,Act.put,List.setIfInBounds_toArray,List.set_cons_zero,List.set_cons_succ]
           refine wpAnyH_ready (rs:=[16]) (by decide +kernel) (by simp) ?_;refine AllReadyH.cons rfl (fun K hK=>?_) AllReadyH.nil;dsimp only [List.getElem_toArray,List.getElem_cons_zero,List.getElem_cons_succ]
           go_simp
           refine hK.out _ _ hx16.rdT (fun hHeld=>?_);clear hK K
           try simp only [Act.put,List.setIfInBounds_toArray,List.set_cons_zero,List.set_cons_succ]
           refine wpAnyH_done (by decide +kernel) ?_ _;clear hHeld v1 t1 hr15 hx15 hr16 hg16 hx16 hgr15 hg15 hgr16;go_wp2_with fail;refine ⟨?_,?_⟩
           ·first | exact HE.out | ((repeat (with_reducible apply Exists.intro)); exact ⟨HE.out,rfl⟩)
           ·simp [intOf]; omega
          ·dsimp only [List.getElem_toArray,List.getElem_cons_zero,List.getElem_cons_succ]
           go_simp
           refine hK.out _ _ HX14a.out.rdT (fun hHeld=>?_);clear hK K
           try simp only [Act.put,List.setIfInBounds_toArray,List.set_cons_zero,List.set_cons_succ]
           refine wpAnyH_ready (rs:=[1]) (by decide +kernel) (by simp) ?_;refine AllReadyH.cons rfl (fun K hK=>?_) AllReadyH.nil;dsimp only [List.getElem_toArray,List.getElem_cons_zero,List.getElem_cons_succ]
           go_simp
           refine hK.out _ _ HX14a.out.rdT (fun hHeld=>?_);clear hK K
           try simp only [Act.put,List.setIfInBounds_toArray,List.set_cons_zero,List.set_cons_succ]
           refine wpAnyH_ready (rs:=[14]) (by decide +kernel) (by simp) ?_;refine AllReadyH.cons rfl (fun K hK=>?_) AllReadyH.nil;refine z2l (k:=3) (T:=103) (S:=53) (V:=MFz D d) w14 ?_ (.tmp 72) (.tmp 84) ?_ (z0O D d) (.agg #[.int .i64 0,.int .i64 0,.slice none 0 0]) 40 Tryz.underlying53 z6p rfl (by decide) (by decide) wo.heap.size (.slice qA qn qc) ((fl.take i).map (nF (outF gl fl))) L3 (nF (outF gl fl) f) [.int .i64 (pn:Int),.int .i64 (nn:Int),.slice A14 m14 c14] (fun b=>w5.heap.size<=b/\b<w14.heap.size) ?_ ?_ HG14.out (by rw [hlm]; omega) hml14 rfl (by simp [Value.oneCell']) HV14.out (fun b hb=>⟨by omega,hb.2,fun e=>by have:=HOB14.out b e; omega⟩) ?_
           ·rfl
           ·rfl
           ·rfl
           ·rfl
           intro g15 cap15 w15 hgr15 hg15 _;have hr15:=HR14.out.grown hg15 (fun b hb=>by have:=(HG14.out.own.lt b hb).1; exact ⟨by omega,this⟩);have v1:=zcr 1 hr15.q;have t1:=z09 hr15.q 1;have hx15:=HX14.out.grown hg15 (fun b hb=>by have:=HQb.out b hb; omega);obtain ⟨hr16,hg16⟩:=hr15.put1 (v:=.slice (some ⟨g15,0,none⟩) (i+1) cap15);have hx16:=hx15.grown hg16 (fun b e=>by injection e with e; omega);have hgr16:=z1f (z0O D d) hgr15 hg16 (fun b e=>by injection e with e; omega);rw [hlm] at hgr16;have HE:Hid (LpC D d fl (outF gl fl) kj w wo (.slice gA k gc) (.slice (some ⟨g,0,none⟩) fn fc) (.slice A n c) (.int .i64 ((i:Int)+1)) (w15.setCell ⟨w.heap.size+1,1,none⟩ (.slice (some ⟨g15,0,none⟩) (i+1) cap15))):=zhi ⟨i+1,_,_,_,_,by simp,by have:=Hfn.out; omega,rfl,hr16,by rw [z29 _ _ _ _ HFi.out]; exact hgr16⟩;rw [hlm];refine hK.out _ _ hx15.rdT (fun hHeld=>?_);clear hK K
           try simp only [List.getElem_toArray,List.getElem_cons_zero,List.getElem_cons_succ,Act.put,List.setIfInBounds_toArray,List.set_cons_zero,List.set_cons_succ]
           refine wpAnyH_take (i:=15) (v:=?_) rfl (by kernel_rfl) (by kernel_rfl) (by kernel_rfl) (fun _ _ _ h=>h) (Or.inl ⟨by rfl,?_⟩) (by assumption) ?_
           rotate_left
           ·intro w hSw
            (try unfold RyT at hSw)
            go_simp
            (try with_reducible rfl)
           try simp only [List.getElem_toArray,List.getElem_cons_zero,List.getElem_cons_succ,Act.put,List.setIfInBounds_toArray,List.set_cons_zero,List.set_cons_succ]
           refine wpAnyH_ready (rs:=[16]) (by decide +kernel) (by simp) ?_;refine AllReadyH.cons rfl (fun K hK=>?_) AllReadyH.nil;dsimp only [List.getElem_toArray,List.getElem_cons_zero,List.getElem_cons_succ]
           go_simp
           refine hK.out _ _ hx16.rdT (fun hHeld=>?_);clear hK K
           try simp only [Act.put,List.setIfInBounds_toArray,List.set_cons_zero,List.set_cons_succ]
           refine wpAnyH_done (by decide +kernel) ?_ _;clear hHeld v1 t1 hr15 hx15 hr16 hg16 hx16 hgr15 hg15 hgr16;go_wp2_with fail;refine ⟨?_,?_⟩
           ·first | exact HE.out | ((repeat (with_reducible apply Exists.intro)); exact ⟨HE.out,rfl⟩)
           ·simp [intOf]; omega
      ·have hif:i=fn:=by have:=Hfn.out; omega
       have hq:=hr.q;obtain ⟨r0,r1⟩:=cl2 hq;have HR:=zhi hr;have HQ:=zhi hq;have HRow:Hid (RowG 3 (MFz D d) (fun b=>wo.heap.size<=b/\b<wu.heap.size) wu (fl.map (nF (outF gl fl))) qA qc):=zhi (by
        have h:=(hgr.row (z0O D d)).2;rw [hif,Hfn.out,List.take_length] at h;exact h)
       have hnl:n=gl.length:=by rw [Hn.out]; exact Hgn.out
       have hql:qn=fl.length:=by rw [Hqn.out,hif]; exact Hfn.out
       have Hnl:=zhi hnl;have Hql:=zhi hql;have Hif:=zhi (hif.trans Hfn.out);clear hr hgr hq hnl hql;go_wp2_with (with_reducible refine zbd ?_);refine z07.of (z00 _ rfl _ _ _ rfl (w.heap.size+1) _ rfl (by rfl) _ _ HQ.out (by kernel_rfl) (by rfl) (by simp [Value.oneCell']) ?_);intro w9 hrow9 hg9;obtain ⟨j0,j1⟩:=cl2 hrow9;have HE:Hid (RdZ D d gl fl w (.returned (.agg #[.slice A n c,.slice qA qn qc])) w9):=zhi ⟨A,c,qA,qc,by rw [Hnl.out,Hql.out],z0j z0f (fun b hb=>⟨by omega,by have:=hg9.size; omega⟩) (fun b hb=>(hg9.block b (by omega) (fun e=>by injection e with e; omega)).trans (HR.out.mid b hb.1 hb.2)) HSz.out,z0j (z0O D d) (fun b hb=>⟨by omega,q_1 hb.2 hg9.size⟩) (fun b hb=>hg9.block b hb.2 (fun e=>by injection e with e; omega)) HRow.out,HR.out.lo.trans (z05 hg9 (fun k hk=>by injection hk with hk; omega) HR.out.lo.size)⟩;clear hrow9 hg9 r0 r1;go_wp2_with fail;exact q_3 (by simp [results,Tryz.results16,go_sem,j0,j1]) rfl HE.out
end Go.Proofs.YtdflbhofmmlpgaaGreat
