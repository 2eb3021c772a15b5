/-
  Nf: Z2. Part of the proof. No condition.
-/
import Derived.Test.YtdflbhofmmlpgaaGreatNe
import Derived.Test.YtdflbhofmmlpgaaGreatMh
set_option maxRecDepth 100000
set_option maxHeartbeats 8000000
namespace Go.Proofs.YtdflbhofmmlpgaaGreat
open Go.RowKit
theorem zaD (s d:Int) (w:World):Calls Tryz.prog 19 #[.agg #[.int .i64 s,.int .i64 d]] w fun e w'=>e=.returned (.agg #[.int .i64 (max 0 (min s 1099511627776)),.int .i64 (max 0 (min d 400))])/\Below w.heap.size w w':=by
 obtain ⟨a,ha⟩:∃ a,a=max 0 (min s 1099511627776):=⟨_,rfl⟩;obtain ⟨b,hb⟩:∃ b,b=max 0 (min d 400):=⟨_,rfl⟩;rw [<- ha,<- hb];rcases (show (s<0/\s<=1099511627776/\¬ 1099511627776<s/\s<=0/\¬ 0<s/\¬ 0<=s/\a=0)\/(s=0/\a=0)\/(0<s/\¬ s<0/\¬ s<=0/\s<=1099511627776/\¬ 1099511627776<s/\0<=s/\s=a)\/(1099511627776<s/\¬ s<=1099511627776/\a=1099511627776) by omega) with ⟨h1,h2,h3,h4,h5,h6,rfl⟩ | ⟨h1,rfl⟩ | ⟨h1,h2,h3,h4,h5,h6,rfl⟩ | ⟨h1,h2,rfl⟩ <;> rcases (show (d<0/\d<=400/\¬ 400<d/\d<=0/\¬ 0<d/\¬ 0<=d/\b=0)\/(d=0/\b=0)\/(0<d/\¬ d<0/\¬ d<=0/\d<=400/\¬ 400<d/\0<=d/\d=b)\/(400<d/\¬ d<=400/\b=400) by omega) with ⟨g1,g2,g3,g4,g5,g6,rfl⟩ | ⟨g1,rfl⟩ | ⟨g1,g2,g3,g4,g5,g6,rfl⟩ | ⟨g1,g2,rfl⟩
 all_goals
  clear ha hb;have HB:=zhi (fun (u v:Int)=>((q_i _ w).alloc (q_2 _) (.cells #[.int .i64 u,.int .i64 v] 34)).alloc (by simp) (.cells #[.int .i64 0,.int .i64 0] 34));have HZ:=zhi (fun (u v:Int)=>z0T w (.cells #[.int .i64 u,.int .i64 v] 34) (.cells #[.int .i64 0,.int .i64 0] 34));go_enter Tryz.func19,Tryz.ntmps19;go_wp2_with (with_reducible refine z5S ?_);refine z07.of (z00 _ rfl _ _ _ rfl (w.heap.size+1) _ rfl (by rfl) _ _ (HZ.out _ _) (by kernel_rfl) (by rfl) (by simp [Value.oneCell']) ?_);intro w9 hrow9 hg9;obtain ⟨j0,j1⟩:=cl2 hrow9;have HE:=zhi ((HB.out _ _).trans (z05 hg9 (fun k hk=>by injection hk with hk; omega) (HB.out _ _).size));clear hrow9 hg9;go_wp2_with fail;exact q_3 (by simp [results,Tryz.results19,go_sem,j0,j1]) rfl ⟨rfl,HE.out⟩
def Rw7 (p:Nat) (v0 v1 iv:Value) (ls ld:Int) (gv:Value) (w:World):Prop :=
 w.heap[p]?=some (.cells #[v0,v1,iv,.int .i64 ls,.int .i64 ld,.int .i64 0,.int .i64 0,gv,.slice none 0 0,.int .i64 0,.int .i64 0] 66 (0,0))
def Lp7 (p:Nat) (v0 v1 iv:Value) (ls ld:Int) (gs:List Nat) (W5:World) (v:Value) (wr:World):Prop:=∃ (k:Nat) (xs:List (Nat × Nat)) (A:Option Addr) (n c:Nat) (L:List Value),v=.int .i64 (k:Int)/\k<=gs.length/\n=k/\Rw7 p v0 v1 iv ls ld (.slice A n c) wr/\GRow 1 23 MGz (p+1) wr (.slice A n c) xs L/\xs.map (·.2)=gs.take k/\(xs.map (·.1)).Nodup/\Below p W5 wr
theorem zdf {p:Nat} {w:World} {v0 v1:Value} {ls ld:Int} {inp:List Int} {iv:Value} {gs:List Nat} {xs:List (Nat × Nat)} {A:Option Addr} {n c:Nat} {L:List Value} (hp:p<w.heap.size) (hn:n=gs.length) (hr:Rw7 p v0 v1 iv ls ld (.slice A n c) w) (hg:GRow 1 23 MGz (p+1) w (.slice A n c) xs L) (hx:xs.map (·.2)=gs) (hnd:(xs.map (·.1)).Nodup) (hi:InZ p inp iv w) (hls:ls<=1099511627776) (hld:ld<=1000) (hgl:gs.length<=1000) (hgm:∀ m∈gs,m<=1000000) :
  ∃ K:RK,K.sz=v0/\K.fn=v1/\K.ls=ls/\K.ld=ld/\K.gs=gs/\Run7 p K p 0 0 ⟨0,inp,[],gs.map fun n=>List.replicate n 0,[]⟩ iv (.slice none 0 0) 0 0 w:=by
 have hlen:xs.length=gs.length:=by rw [<- hx,List.length_map]
 have hb:A=none/\n=0\/∃ g,A=some ⟨g,0,none⟩/\p<g/\g<w.heap.size:=by
  rcases hg.own.2 with ⟨e,h0⟩ | ⟨g,cap,cur,e,h1,h2,_⟩
  ·injection e with e1 e2 e3;exact .inl ⟨e1,e2⟩
  ·injection e with e1 e2 e3;exact .inr ⟨g,e1,by omega,(q_0.1 h2).1⟩
 obtain ⟨gb,hgb,hgb1,hgb2⟩:∃ gb,(n=0/\gb=p\/A=some ⟨gb,0,none⟩/\p<gb)/\p<=gb/\gb<w.heap.size:=by
  rcases hb with ⟨h1,h2⟩ | ⟨g,h1,h2,h3⟩
  ·exact ⟨p,.inl ⟨h2,rfl⟩,q_2 _,hp⟩
  ·exact ⟨g,.inr ⟨h1,h2⟩,by omega,h3⟩
 have hnil:n=0->xs=[]:=fun h=>q_g (by omega)
 refine ⟨⟨v0,v1,.slice A n c,ls,ld,gb,xs.map (·.1),gs⟩,rfl,rfl,rfl,rfl,rfl,hr,hi,⟨[],GRow.nil⟩,fun b e=>(by cases e),⟨?_,?_,?_⟩,⟨rfl,.inl ⟨rfl,rfl,trivial⟩⟩,⟨hgb1,?_,?_,?_,hnd,hls,hld,hgl,hgm⟩,⟨Int.le_refl _,(by show (0:Int)<=max ls 0; omega)⟩,(by show 0<=4096; decide),⟨Int.le_refl _,by decide⟩,by decide,?_⟩
 ·show (gs.map fun n=>List.replicate n (0:Int)).map List.length=gs
  rw [List.map_map]
  conv=>rhs; rw [<- List.map_id gs]
  apply List.map_congr_left;intro x _;simp
 ·rcases hgb with ⟨h,_⟩ | ⟨h,_⟩
  ·left;have:gs=[]:=q_g (by omega);rw [this];rfl
  ·right;exact ⟨c,by show Value.slice A n c=_; rw [h]; simp [hn]⟩
 ·intro i l hi;dsimp only at hi;rw [q_b,q_c] at hi;obtain ⟨m,hm,rfl⟩:=hi;rw [<- hx,q_b,q_c] at hm;obtain ⟨x,hxi,rfl⟩:=hm;have hrow:=(hg.row z1R).2;obtain ⟨g,cs,hA,_,_,hc,rfl,hF,hI⟩:=hrow.2 i x hxi;have hgg:g=gb:=by
   rcases hgb with ⟨h,_⟩ | ⟨h,_⟩
   ·rw [hnil h] at hxi;simp at hxi
   ·rw [h] at hA;injection hA with hA;injection hA with hA;exact hA.symm
  subst hgg;refine ⟨x.1,x.2,by simp [hxi],?_,hI⟩;have:=hc 0 _ rfl;simpa using this
 ·rcases hgb with ⟨h,_⟩ | ⟨_,h⟩
  ·exact .inl (q_g (by show gs.length=0; omega))
  ·exact .inr h
 ·intro hm;obtain ⟨x,hx1,hx2⟩:=List.mem_map.1 hm;have h1:=z3r hg hx1;rcases hgb with ⟨h,_⟩ | ⟨h,_⟩
  ·rw [hnil h] at hx1;simp at hx1
  ·exact h1.2.2 (by rw [h]; show some gb=some x.1; rw [hx2])
 ·intro b hm;obtain ⟨x,hx1,rfl⟩:=List.mem_map.1 hm;exact (z3r hg hx1).1
 ·rintro b (rfl | hm)
  ·exact hgb2
  ·obtain ⟨x,hx1,rfl⟩:=List.mem_map.1 hm;exact (z3r hg hx1).2.1
theorem zeU {F:Nat->Prop} {D d:Nat} (gl:GlL) (fl:List Fn) (gA:Option Addr) (gn gc:Nat) (fA:Option Addr) (fn fc:Nat) (inp:List Int) (iA:Option Addr) (im ic:Nat) (sl dl:Int) (w:World) (hgn:gn=gl.length) (hfn:fn=fl.length) (hg:z0k F w gl gA gc) (hf:z0R F w D d fl fA fc) (hF:∀ b,F b->b<w.heap.size) (hg1:gl.length<=1000) (hf1:fl.length<=1000) (hf0:0<fl.length) (hm0:∀ f,fl[0]?=some f->f.params=[]) (hgm:∀ m∈z10 gl,m<=1000000)
  (hwf:∀ (K:RK),K.gs=z10 gl->∀ (i:Nat) (f:Fn),fl[i]?=some f->Wf7 K gl fl (outF gl fl) f)
  (him:im=inp.length) (hic:im<=ic) (him2:im<=1000000) (hir:Rd w iA (inp.map (Value.int .i64))) (hib:∀ ad,iA=some ad->ad.block<w.heap.size) :
  Calls Tryz.prog 10 #[.agg #[.slice gA gn gc,.slice fA fn fc],.slice iA im ic,.agg #[.int .i64 sl,.int .i64 dl]] w (OutZ (zRun (max 0 (min sl 1099511627776)) (max 0 (min dl 400)) (fl.map (nF (outF gl fl))) (z10 gl) inp) w):=by
 have h0:RuZ w (.slice gA gn gc) (.slice fA fn fc) sl dl (((w.alloc (.cells #[.slice gA gn gc,.slice fA fn fc] 31)).alloc (.cells #[.int .i64 sl,.int .i64 dl] 34)).alloc (.cells #[.int .i64 0,.int .i64 0,.int .i64 0,.slice none 0 0] 40)):=by
  refine ⟨?_,?_,?_,(((q_i _ w).alloc (q_2 _) _).alloc (by simp) _).alloc (by simp; omega) _⟩
  ·rw [q_5 _ _ (by simp; omega)];exact z14 w _ _
  ·rw [q_5 _ _ (by simp)];exact z0T w _ _
  ·have:=q_4 ((w.alloc (.cells #[.slice gA gn gc,.slice fA fn fc] 31)).alloc (.cells #[.int .i64 sl,.int .i64 dl] 34)) (.cells #[.int .i64 0,.int .i64 0,.int .i64 0,.slice none 0 0] 40);simpa using this
 obtain ⟨gs,hgse⟩:∃ gs,gs=z10 gl:=⟨_,rfl⟩;rw [<- hgse] at hgm hwf ⊢;have hgsl:gs.length=gn:=by rw [hgse,hgn]; simp [z10]
 have H0:=zhi h0;have Hg:=zhi hg;have Hf:=zhi hf;have HF:=zhi hF;have Hgm:=zhi hgm;have Hgse:=zhi hgse;have Hwf:=zhi hwf;have Him:=zhi him;have Hir:=zhi hir;have Hib:=zhi hib;have Hgn:=zhi hgn;have Hfn:=zhi hfn;have Hm0:=zhi hm0;have hgc:gn<=gc:=by rw [hgn]; exact hg.1
 have hg2:gn<=1000:=by omega
 clear hg hf hF h0 hgm hgse hwf him hir hib hgn hfn hm0;go_enter Tryz.func10,Tryz.ntmps10;go_upto_region 1 with fail;obtain ⟨W0,hW0⟩:∃ W0,W0=((w.alloc (.cells #[.slice gA gn gc,.slice fA fn fc] 31)).alloc (.cells #[.int .i64 sl,.int .i64 dl] 34)).alloc (.cells #[.int .i64 0,.int .i64 0,.int .i64 0,.slice none 0 0] 40):=⟨_,rfl⟩;rw [<- hW0] at H0 ⊢;clear hW0;have hsn0:=H0.out;have hS0:=hsn0.drew.cells
 go_region_held3 (fun w'=>w'.cell? ⟨w.heap.size,0,none⟩=some (.slice gA gn gc)/\w'.cell? ⟨w.heap.size,1,none⟩=some (.slice fA fn fc)/\w'.cell? ⟨w.heap.size+1,0,none⟩=some (.int .i64 sl)/\w'.cell? ⟨w.heap.size+1,1,none⟩=some (.int .i64 dl)/\RuZ w (.slice gA gn gc) (.slice fA fn fc) sl dl w')
  (first | (with_reducible exact hS0) | ((with_reducible refine RuZ.cells ?_); (repeat (first | (with_reducible assumption) | (with_reducible refine RuZ.alloc ?_ _) | (with_reducible refine RuZ.drew ?_))); done))
  ((go_at_call 19; (with_reducible refine (zaD sl dl _).mono ?_); rintro e w4 ⟨rfl,hb4⟩; have hsn4:=hsn0.drew.below hsn0.drew.size hb4))
 obtain ⟨ls,hls⟩:∃ ls,ls=max 0 (min sl 1099511627776):=⟨_,rfl⟩;obtain ⟨ld,hld⟩:∃ ld,ld=max 0 (min dl 400):=⟨_,rfl⟩;rw [<- hls,<- hld];have Hls:=zhi hls;have Hld:=zhi hld;have hls2:ls<=1099511627776:=by omega
 have hld2:ld<=400/\0<=ld:=by omega
 have hszw:=hsn4.size;have hb5:=(q_i _ w4).alloc (q_2 _) (.cells #[.slice gA gn gc,.slice fA fn fc,.slice iA im ic,.int .i64 ls,.int .i64 ld,.int .i64 0,.int .i64 0,.slice none 0 0,.slice none 0 0,.int .i64 0,.int .i64 0] 66);have hp5:=q_4 w4 (.cells #[.slice gA gn gc,.slice fA fn fc,.slice iA im ic,.int .i64 ls,.int .i64 ld,.int .i64 0,.int .i64 0,.slice none 0 0,.slice none 0 0,.int .i64 0,.int .i64 0] 66);obtain ⟨W5,hW5⟩:∃ W5,W5=w4.alloc (.cells #[.slice gA gn gc,.slice fA fn fc,.slice iA im ic,.int .i64 ls,.int .i64 ld,.int .i64 0,.int .i64 0,.slice none 0 0,.slice none 0 0,.int .i64 0,.int .i64 0] 66):=⟨_,rfl⟩;rw [<- hW5] at hb5 hp5;have HSN:=zhi hsn4;have HB5:=zhi hb5;have HP5:Hid (Rw7 w4.heap.size (.slice gA gn gc) (.slice fA fn fc) (.slice iA im ic) ls ld (.slice none 0 0) W5):=zhi hp5;have x0:=zcr 7 hp5;have hlt5:=(q_0.1 hp5).1;have y0:W5.cell? ⟨w.heap.size,0,none⟩=some (.slice gA gn gc):=hold hb5 hsn4.cells.1;go_upto_region 2 with fail;rw [<- hW5];clear hW5 hb5 hp5 hsn4 hb4 hls hld hS0 hsn0;go_wp2_with fail
 go_loopw [9] (fun v wr=>Lp7 w4.heap.size (.slice gA gn gc) (.slice fA fn fc) (.slice iA im ic) ls ld gs W5 v wr) (fun v _=>gn - (intOf v).toNat)
 case atStart=>exact ⟨0,[],none,0,0,[],rfl,q_h _,rfl,HP5.out,GRow.nil,rfl,List.nodup_nil,q_i _ _⟩
 case round =>
  obtain ⟨wo,rfl⟩:∃ wo:World,wo=wr:=⟨_,rfl⟩;obtain ⟨k,xs,A,n,c,L,rfl,hk,hn,hr,hgr,hxs,hnd,hb⟩:=hrel;clear x0 y0;have HR:=zhi hr;have HG:=zhi hgr;have Hn:=zhi hn;have Hxs:=zhi hxs;have Hnd:=zhi hnd;have HB:=zhi hb;have hsb:=hb.size;have hbw4:w.heap.size<w4.heap.size:=by omega
  have hbx:wo.cell? ⟨w.heap.size,0,none⟩=some (.slice gA gn gc):=(q_6 (hb.block w.heap.size hbw4)).trans ((q_6 (HB5.out.block w.heap.size hbw4)).trans HSN.out.cells.1);clear hn hnd
  by_cases hlt:k<gn
  ·obtain ⟨x,hx⟩:∃ x,gl[k]?=some x:=⟨gl[k]'(by rw [<- Hgn.out]; exact hlt),q_7 _⟩;obtain ⟨g,rfl,hFg,_,d1⟩:=Hg.out.2 k x hx;have hgw:=HF.out g hFg;have hg4:g<w4.heap.size:=by omega
   have n1:wo.cell? ⟨g,k * 2+1,none⟩=some (.int .i64 x.2):=(q_6 (((hb.block g hg4).trans (HB5.out.block g hg4)).trans (HSN.out.lo.block g hgw))).trans d1;have hgk:gs[k]?=some (max x.2 1).toNat:=by
    rw [Hgse.out];unfold z10;rw [q_b,hx];rfl
   have hpo:w4.heap.size<wo.heap.size:=(q_0.1 hr).1;have y7:wo.cell? ⟨w4.heap.size,7,none⟩=some (.slice A n c):=zcr 7 hr;have hxk:xs.length=k:=by have:=congrArg List.length hxs; simp at this; omega
   have Hxk:=zhi hxk;have hxl:xs.length<=1000:=by omega
   have hm2:(max x.2 1).toNat<=1000000:=Hgm.out _ (q_a hgk);have HRa:Hid (∀ (W':World),wo.grownBy W' (Value.slice A n c).ownBlock->Rw7 w4.heap.size (.slice (some ⟨g,0,none⟩) gn gc) (.slice fA fn fc) (.slice iA im ic) ls ld (.slice A n c) W'):=zhi (fun W' hg=>(hg.block _ hpo (fun e=>by have:=(hgr.own.lt _ e.symm).1; omega)).trans hr);have Hgk:=zhi hgk;obtain ⟨z,hz⟩:∃ z,z=x.2:=⟨_,rfl⟩;rw [<- hz] at n1 Hgk hm2;clear hr hgr hb hxs HR hxk hx hz d1 hgk hgw;rcases (show (z<1/\z<=1/\¬ 1<z/\¬ 1<=z)\/z=1\/(1<z/\1<=z/\¬ z<1/\¬ z<=1) by omega) with ⟨h1,h2,h3,h4⟩ | h1 | ⟨h1,h2,h3,h4⟩
   have e:(max z 1).toNat=1:=by omega
   rw [e] at Hgk hm2;have hmk:∀ W,(Instr.makeSlice 23 (.int .i64 1) (.int .i64 1)).run Tryz.prog W=.ok (.slice (some ⟨W.heap.size,0,none⟩) 1 1) (W.alloc (.cells (Array.replicate 1 (Value.int .i64 0)) 3)):=fun W=>z1Q W 1 (by decide)
   clear e
   rotate_left
   have e:(max z 1).toNat=1:=by omega
   rw [e] at Hgk hm2;have hmk:∀ W,(Instr.makeSlice 23 (.int .i64 1) (.int .i64 1)).run Tryz.prog W=.ok (.slice (some ⟨W.heap.size,0,none⟩) 1 1) (W.alloc (.cells (Array.replicate 1 (Value.int .i64 0)) 3)):=fun W=>z1Q W 1 (by decide)
   clear e
   rotate_left
   obtain ⟨Z,rfl⟩:∃ Z:Nat,z=(Z:Int):=⟨z.toNat,by omega⟩;have e:(max (Z:Int) 1).toNat=Z:=by omega
   rw [e] at Hgk hm2;have hmk:=fun W=>z1Q W Z hm2
   clear e
   all_goals
    go_upto_region 5 with fail
    go_region_law (refine z7w w4.heap.size wo _ rfl (.tmp 30) (.tmp 39) rfl (.slice A n c) xs L _ rfl rfl HG.out hpo hxl (by first | exact z0m ((q_i _ _).alloc (by simp) _) | exact z17 ((q_i _ _).alloc (by simp) _) _ | exact (q_i _ _).alloc (by simp) _) (z0T wo _ _) ?_; intro g7 cap7 w7 L7 hgr7 hg7; have hr7:=HRa.out _ hg7; have y7:=zcr 7 hr7; have f7:=z09 hr7 7)
    all_goals
     have hg8:w7.grownBy (w7.setCell ⟨w4.heap.size,7,none⟩ (.slice (some ⟨g7,0,none⟩) (xs.length+1) cap7)) (some w4.heap.size):=z03 w7 ⟨w4.heap.size,7,none⟩ _;have hr8:Rw7 w4.heap.size (.slice (some ⟨g,0,none⟩) gn gc) (.slice fA fn fc) (.slice iA im ic) ls ld (.slice (some ⟨g7,0,none⟩) (xs.length+1) cap7) (w7.setCell ⟨w4.heap.size,7,none⟩ (.slice (some ⟨g7,0,none⟩) (xs.length+1) cap7)):=z0a (i:=7) _ hr7;have hgr8:=z1f z1R hgr7 hg8 (fun b e=>by injection e with e; omega);have HE:Hid (Lp7 w4.heap.size (.slice (some ⟨g,0,none⟩) gn gc) (.slice fA fn fc) (.slice iA im ic) ls ld gs W5 (.int .i64 ((k:Int)+1)) (w7.setCell ⟨w4.heap.size,7,none⟩ (.slice (some ⟨g7,0,none⟩) (xs.length+1) cap7))):=zhi ⟨k+1,_,_,_,_,_,by simp,by omega,by rw [Hxk.out],hr8,hgr8,by
       rw [List.map_append,Hxs.out,List.take_add_one,Hgk.out];rfl,by
       rw [List.map_append,List.nodup_append];refine ⟨Hnd.out,by simp,fun a ha b hb e=>?_⟩;obtain ⟨x,hx1,rfl⟩:=List.mem_map.1 ha;simp at hb;have:=(z3r HG.out hx1).2.1;omega,(HB.out.trans (z05 hg7 (fun b e=>by have:=(HG.out.own.lt b e).1; omega) (by omega))).trans (z05 hg8 (fun b e=>by injection e with e; omega) (by have:=hg7.size; omega))⟩
     clear hr7 hgr7 hr8 hgr8 hg7 hg8 y7 f7 HRa;go_wp2_with fail;exact ⟨HE.out,by simp [intOf]; omega⟩
  ·have hkg:k=gs.length:=by omega
   subst hkg;have hxg:xs.map (·.2)=gs:=by rw [Hxs.out,List.take_length]
   have hib5:InZ w4.heap.size inp (.slice iA im ic) wo:=⟨iA,ic,by rw [Him.out],by rw [<- Him.out]; exact hic,by rw [<- Him.out]; exact him2,fun j u hu=>by
    obtain ⟨ad,e,hc⟩:=Hir.out j u hu;have hlt:=Hib.out ad e;have hlt4:ad.block<w4.heap.size:=by omega
    refine ⟨ad,e,(q_6 (a:=ad.add j) ?_).trans hc⟩;rw [z0i];exact ((hb.block _ hlt4).trans (HB5.out.block _ hlt4)).trans (HSN.out.lo.block _ hlt),fun ad e=>by have:=Hib.out ad e; omega⟩
   obtain ⟨K,hK0,hK1,hK2,hK3,hK4,hrm⟩:=zdf (by omega) Hn.out hr hgr hxg Hnd.out hib5 hls2 (by omega) (by omega) Hgm.out;have hblk:∀ b,b<w.heap.size->wo.heap[b]?=w.heap[b]?:=fun b hb0=>by
    have h4:b<w4.heap.size:=by omega
    exact ((hb.block b h4).trans (HB5.out.block b h4)).trans (HSN.out.lo.block b hb0)
   have hpg:Pg7 w4.heap.size K D d gl fl wo:=⟨⟨gA,gc,fA,fc,by rw [hK0,Hgn.out],by rw [hK1,Hfn.out],Hg.out.keepR (fun b hb0=>by have:=HF.out b hb0; omega) (fun b hb0=>hblk b (HF.out b hb0)),Hf.out.keepR (fun b hb0=>by have:=HF.out b hb0; omega) (fun b hb0=>hblk b (HF.out b hb0))⟩,by omega,hf1,by rw [hK4,hgsl,Hgn.out]⟩;obtain ⟨F0,hF0⟩:∃ F0,fl[0]?=some F0:=⟨fl[0]'hf0,q_7 _⟩;have hcall:=z5y (O:=outF gl fl) (D:=D) (d:=d) (Hwf.out K hK4) ld.toNat w4.heap.size 0 0 _ 0 F0 [] none 0 0 wo ⟨_,_,_,_,hrm⟩ (by
    unfold DpZ;rw [hK3];omega) hpg (Int.le_refl _) hF0 (by rw [Hm0.out F0 hF0]; rfl) rfl (q_2 _) (by decide) (fun j u hu=>by simp at hu)
   rw [hK2] at hcall;have HC:=zhi hcall;have HBB:=zhi (HB5.out.trans hb);clear hr hgr hb hxs hxg hib5 hrm hpg hcall HR HG hK0 hK1 hK2 hK3 hK4 hF0 hblk;go_upto_region 6 with fail;go_wp2_with fail;refine HC.out.mono ?_;rintro e w7 ⟨v7,rfl,hv7,ht7,⟨iv7,ov7,tr7,vl7,hrm7⟩,hfr7⟩;have hnz:=zbB (ls:=ls) (fs:=fl.map (nF (outF gl fl))) ld.toNat 0 [] ⟨0,inp,[],gs.map fun n=>List.replicate n 0,[]⟩;obtain ⟨y,hy⟩:∃ y,y=zC ls (fl.map (nF (outF gl fl))) ld.toNat 0 [] ⟨0,inp,[],gs.map fun n=>List.replicate n 0,[]⟩:=⟨_,rfl⟩;rw [<- hy] at hv7 ht7 hrm7 hnz ⊢;have HY:Hid (zRun ls ld (fl.map (nF (outF gl fl))) gs inp=((y.1.1,zK y.1.2.1,y.1.2.2),y.2)):=zhi (by
    unfold zRun;rw [<- hy])
   obtain ⟨⟨v,kd,tr⟩,⟨st,ip,out,gll,lvl⟩⟩:=y;dsimp only at hrm7 HY hv7 ht7 hnz ⊢;have hs7:=HSN.out.below hszw (HBB.out.trans hfr7.lo);obtain ⟨L7,hg7⟩:=hrm7.o;dsimp only at hg7;obtain ⟨oA,oc,hov⟩:=z2b hg7;subst hov;have hp7:=hrm7.r;dsimp only at hp7;have hp7s:w4.heap.size<w7.heap.size:=hrm7.plt;have hol7:out.length<=4096:=hrm7.ol;have hc9:w7.cell? ⟨w4.heap.size,9,none⟩=some (.int .i64 tr7):=zcr 9 hp7;have htr:kd=2->tr7=tr:=fun e=>by
    have h:=ht7 e;unfold Tr7 at h;rw [hc9] at h;injection h with h;injection h
   have p8:=zcr 8 hp7;obtain ⟨on,hon⟩:∃ on,on=out.length:=⟨_,rfl⟩;have HE7:=zhi (And.intro hv7 (And.intro htr hnz));have HS7:=zhi hs7;have HP7:=zhi hp7;have HG7:=zhi (hg7.row z0f).2;have hsz7:=hs7.size;have hb8:=(q_i _ w7).alloc (q_2 _) (.cells #[.int .i64 1,.int .i64 v7,.int .i64 0,.slice oA out.length oc] 40);have hz8:=q_4 w7 (.cells #[.int .i64 1,.int .i64 v7,.int .i64 0,.slice oA out.length oc] 40);have HB8:=zhi hb8;have HZ8:=zhi hz8;clear hy hv7 ht7 hnz hs7 hg7 hp7 hrm7 hfr7 HC hc9 htr hb8 hz8;go_upto_region 9 with fail;obtain ⟨W8,hW8⟩:∃ W8,W8=w7.alloc (.cells #[.int .i64 1,.int .i64 v7,.int .i64 0,.slice oA out.length oc] 40):=⟨_,rfl⟩;rw [<- hW8] at HB8 HZ8 ⊢;clear hW8;have hE8:=HZ8.out;have HT8:Hid (∀ W9,W8.grownBy W9 (some w7.heap.size)->RuZ w (.slice gA gn gc) (.slice fA fn fc) sl dl W9/\Rn7 w4.heap.size K st 0 iv7 (.slice oA out.length oc) tr7 vl7 W9/\RowG 1 ZInt (fun b=>w4.heap.size+1<=b/\b<W9.heap.size) W9 out oA oc):=zhi (fun W9 hg=>by
    have hb:=HB8.out.trans (z05 hg (B:=w7.heap.size) (fun k hk=>by injection hk with hk; omega) HB8.out.size);exact ⟨HS7.out.below hsz7 hb,(hb.block _ hp7s).trans HP7.out,z0j z0f (fun b hb'=>⟨hb'.1,q_1 hb'.2 hb.size⟩) (fun b hb'=>hb.block b hb'.2) HG7.out⟩)
   have hbs8:w7.heap.size<W8.heap.size:=(q_0.1 hE8).1;clear p8;have hz:(kd=0/\v7=v/\tr=0)\/(kd=2/\v=0/\tr7=tr)\/(kd=3/\v=0/\tr=0):=by
    obtain ⟨h1,h2,h3⟩:=HE7.out;rcases h3 with ⟨a,b⟩ | ⟨a,b⟩ | ⟨a,b,c⟩
    ·exact .inl ⟨a,h1 a,b⟩
    ·exact .inr (.inl ⟨a,b,h2 a⟩)
    ·exact .inr (.inr ⟨a,b,c⟩)
   clear HE7;rcases hz with ⟨rfl,rfl,rfl⟩ | ⟨rfl,rfl,rfl⟩ | ⟨rfl,rfl,rfl⟩
   ·obtain ⟨hs9,hp9,hrow9⟩:=HT8.out W8 (z02 (q_i _ _) _);have hE9:=hE8;go_upto_region 13 with fail;have o0:W8.cell? ⟨w.heap.size+1+1,0,none⟩=some (.int .i64 0):=zcr 0 hs9.o;have o1:W8.cell? ⟨w.heap.size+1+1,1,none⟩=some (.int .i64 0):=zcr 1 hs9.o;have o2':W8.cell? ⟨w.heap.size+1+1,2,none⟩=some (.int .i64 0):=zcr 2 hs9.o;have o3:W8.cell? ⟨w.heap.size+1+1,3,none⟩=some (.slice none 0 0):=zcr 3 hs9.o;have f0:W8.frozen? ⟨w.heap.size+1+1,0,none⟩=false:=z09 hs9.o 0;have f1:W8.frozen? ⟨w.heap.size+1+1,1,none⟩=false:=z09 hs9.o 1;have f2:W8.frozen? ⟨w.heap.size+1+1,2,none⟩=false:=z09 hs9.o 2;have f3:W8.frozen? ⟨w.heap.size+1+1,3,none⟩=false:=z09 hs9.o 3;obtain ⟨e0,e1,e2,e3⟩:=cl4 hE9;have p5:=zcr 5 hp9;have HS9:=zhi hs9;have HRow9:=zhi hrow9;clear hE9 hs9 hp9 hrow9 HT8;go_region;go_wp2_with fail;obtain ⟨hrow9,hg9⟩:=outz4 (.int .i64 1) (.int .i64 v7) (.int .i64 0) (.slice oA out.length oc) HS9.out.o;obtain ⟨j0,j1,j2,j3⟩:=cl4 hrow9;have HH:Hid (OutZ (zRun (max 0 (min sl 1099511627776)) (max 0 (min dl 400)) (fl.map (nF (outF gl fl))) gs inp) w (.returned (.tuple #[.agg #[.int .i64 1,.int .i64 v7,.int .i64 0,.slice oA out.length oc],.int .i64 st])) _):=zhi (by
     rw [<- Hls.out,<- Hld.out,HY.out];exact ⟨oA,_,oc,by simp [zK],rfl,hol7,z0j z0f (fun b hb=>⟨by omega,q_1 hb.2 hg9.size⟩) (fun b hb=>hg9.block b hb.2 (fun e=>by injection e with e; omega)) HRow9.out,HS9.out.lo.trans (z05 hg9 (fun k hk=>by injection hk with hk; omega) HS9.out.lo.size)⟩)
    clear hrow9 hg9;exact q_3 (by simp [results,Tryz.results10,go_sem,j0,j1,j2,j3]) rfl HH.out
   ·obtain ⟨hs8,hp8,_⟩:=HT8.out W8 (z02 (q_i _ _) _);obtain ⟨e0,e1,e2,e3⟩:=cl4 hE8;have f0:W8.frozen? ⟨w7.heap.size,0,none⟩=false:=z09 hE8 0;have f1:W8.frozen? ⟨w7.heap.size,1,none⟩=false:=z09 hE8 1;have f2:W8.frozen? ⟨w7.heap.size,2,none⟩=false:=z09 hE8 2;have p9:=zcr 9 hp8;have HE8:=zhi hE8;clear hE8 hs8 hp8;go_upto_region 10 with fail;go_region;obtain ⟨W9,hW9⟩:∃ W9,W9=(((W8.setCell ⟨w7.heap.size,0,none⟩ (.int .i64 2)).setCell ⟨w7.heap.size,1,none⟩ (.int .i64 0)).setCell ⟨w7.heap.size,2,none⟩ (.int .i64 tr7)).drew:=⟨_,rfl⟩;rw [<- hW9];have hE9:W9.heap[w7.heap.size]?=some (.cells #[.int .i64 2,.int .i64 0,.int .i64 tr7,.slice oA out.length oc] 40 (0,0)):=by rw [hW9]; exact z0a (i:=2) _ (z0a (i:=1) _ (z0a (i:=0) _ HE8.out))
    obtain ⟨hs9,hp9,hrow9⟩:=HT8.out W9 (by rw [hW9]; exact (((z03 W8 ⟨w7.heap.size,0,none⟩ _).trans (z03 _ ⟨w7.heap.size,1,none⟩ _)).trans (z03 _ ⟨w7.heap.size,2,none⟩ _)).trans (z02 (z0m (q_i _ _)) _));clear hW9 e0 e1 e2 e3 f0 f1 f2 p9;go_upto_region 13 with fail;have o0:W9.cell? ⟨w.heap.size+1+1,0,none⟩=some (.int .i64 0):=zcr 0 hs9.o;have o1:W9.cell? ⟨w.heap.size+1+1,1,none⟩=some (.int .i64 0):=zcr 1 hs9.o;have o2':W9.cell? ⟨w.heap.size+1+1,2,none⟩=some (.int .i64 0):=zcr 2 hs9.o;have o3:W9.cell? ⟨w.heap.size+1+1,3,none⟩=some (.slice none 0 0):=zcr 3 hs9.o;have f0:W9.frozen? ⟨w.heap.size+1+1,0,none⟩=false:=z09 hs9.o 0;have f1:W9.frozen? ⟨w.heap.size+1+1,1,none⟩=false:=z09 hs9.o 1;have f2:W9.frozen? ⟨w.heap.size+1+1,2,none⟩=false:=z09 hs9.o 2;have f3:W9.frozen? ⟨w.heap.size+1+1,3,none⟩=false:=z09 hs9.o 3;obtain ⟨e0,e1,e2,e3⟩:=cl4 hE9;have p5:=zcr 5 hp9;have HS9:=zhi hs9;have HRow9:=zhi hrow9;clear hE9 hs9 hp9 hrow9 HT8;go_region;go_wp2_with fail;obtain ⟨hrow9,hg9⟩:=outz4 (.int .i64 2) (.int .i64 0) (.int .i64 tr7) (.slice oA out.length oc) HS9.out.o;obtain ⟨j0,j1,j2,j3⟩:=cl4 hrow9;have HH:Hid (OutZ (zRun (max 0 (min sl 1099511627776)) (max 0 (min dl 400)) (fl.map (nF (outF gl fl))) gs inp) w (.returned (.tuple #[.agg #[.int .i64 2,.int .i64 0,.int .i64 tr7,.slice oA out.length oc],.int .i64 st])) _):=zhi (by
     rw [<- Hls.out,<- Hld.out,HY.out];exact ⟨oA,_,oc,by simp [zK],rfl,hol7,z0j z0f (fun b hb=>⟨by omega,q_1 hb.2 hg9.size⟩) (fun b hb=>hg9.block b hb.2 (fun e=>by injection e with e; omega)) HRow9.out,HS9.out.lo.trans (z05 hg9 (fun k hk=>by injection hk with hk; omega) HS9.out.lo.size)⟩)
    clear hrow9 hg9;exact q_3 (by simp [results,Tryz.results10,go_sem,j0,j1,j2,j3]) rfl HH.out
   ·obtain ⟨hs8,hp8,_⟩:=HT8.out W8 (z02 (q_i _ _) _);obtain ⟨e0,e1,e2,e3⟩:=cl4 hE8;have f0:W8.frozen? ⟨w7.heap.size,0,none⟩=false:=z09 hE8 0;have f1:W8.frozen? ⟨w7.heap.size,1,none⟩=false:=z09 hE8 1;have f2:W8.frozen? ⟨w7.heap.size,2,none⟩=false:=z09 hE8 2;have p9:=zcr 9 hp8;have HE8:=zhi hE8;clear hE8 hs8 hp8;go_upto_region 13 with fail;obtain ⟨W9,hW9⟩:∃ W9,W9=(W8.setCell ⟨w7.heap.size,0,none⟩ (.int .i64 3)).setCell ⟨w7.heap.size,1,none⟩ (.int .i64 0):=⟨_,rfl⟩;rw [<- hW9];have hE9:W9.heap[w7.heap.size]?=some (.cells #[.int .i64 3,.int .i64 0,.int .i64 0,.slice oA out.length oc] 40 (0,0)):=by rw [hW9]; exact z0a (i:=1) _ (z0a (i:=0) _ HE8.out)
    obtain ⟨hs9,hp9,hrow9⟩:=HT8.out W9 (by rw [hW9]; exact (z03 W8 ⟨w7.heap.size,0,none⟩ _).trans (z03 _ ⟨w7.heap.size,1,none⟩ _));clear hW9 e0 e1 e2 e3 f0 f1 f2 p9;have o0:W9.cell? ⟨w.heap.size+1+1,0,none⟩=some (.int .i64 0):=zcr 0 hs9.o;have o1:W9.cell? ⟨w.heap.size+1+1,1,none⟩=some (.int .i64 0):=zcr 1 hs9.o;have o2':W9.cell? ⟨w.heap.size+1+1,2,none⟩=some (.int .i64 0):=zcr 2 hs9.o;have o3:W9.cell? ⟨w.heap.size+1+1,3,none⟩=some (.slice none 0 0):=zcr 3 hs9.o;have f0:W9.frozen? ⟨w.heap.size+1+1,0,none⟩=false:=z09 hs9.o 0;have f1:W9.frozen? ⟨w.heap.size+1+1,1,none⟩=false:=z09 hs9.o 1;have f2:W9.frozen? ⟨w.heap.size+1+1,2,none⟩=false:=z09 hs9.o 2;have f3:W9.frozen? ⟨w.heap.size+1+1,3,none⟩=false:=z09 hs9.o 3;obtain ⟨e0,e1,e2,e3⟩:=cl4 hE9;have p5:=zcr 5 hp9;have HS9:=zhi hs9;have HRow9:=zhi hrow9;clear hE9 hs9 hp9 hrow9 HT8;go_region;go_wp2_with fail;obtain ⟨hrow9,hg9⟩:=outz4 (.int .i64 3) (.int .i64 0) (.int .i64 0) (.slice oA out.length oc) HS9.out.o;obtain ⟨j0,j1,j2,j3⟩:=cl4 hrow9;have HH:Hid (OutZ (zRun (max 0 (min sl 1099511627776)) (max 0 (min dl 400)) (fl.map (nF (outF gl fl))) gs inp) w (.returned (.tuple #[.agg #[.int .i64 3,.int .i64 0,.int .i64 0,.slice oA out.length oc],.int .i64 st])) _):=zhi (by
     rw [<- Hls.out,<- Hld.out,HY.out];exact ⟨oA,_,oc,by simp [zK],rfl,hol7,z0j z0f (fun b hb=>⟨by omega,q_1 hb.2 hg9.size⟩) (fun b hb=>hg9.block b hb.2 (fun e=>by injection e with e; omega)) HRow9.out,HS9.out.lo.trans (z05 hg9 (fun k hk=>by injection hk with hk; omega) HS9.out.lo.size)⟩)
    clear hrow9 hg9;exact q_3 (by simp [results,Tryz.results10,go_sem,j0,j1,j2,j3]) rfl HH.out
end Go.Proofs.YtdflbhofmmlpgaaGreat
