/-
  Ky: Src2. Part of the proof. No condition.
-/
import Derived.Test.YtdflbhofmmlpgaaGreatKx
set_option maxRecDepth 100000
set_option maxHeartbeats 8000000
namespace Go.Proofs.YtdflbhofmmlpgaaGreat
open Go.RowKit
theorem z3I {c:UInt8} {n:Nat} (h:c=103\/c=102\/c=112) (hn:n<10) (s:Zb) (hs:s.data.toList=c :: numL n):z0B s:=by
 have hsz:s.size=(numL n).length+1:=by rw [z4d hs]; simp
 have hl:(numL n).length=1:=by rw [numL,dif_pos hn]; rfl
 have hc:∀ x∈numL n,digit x=true:=z6w n;have e:numL n=[UInt8.ofNat (48+n)]:=by rw [numL,dif_pos hn]
 refine ⟨by omega,?_⟩;rw [hs,e];have hcase:n=0\/n=1\/n=2\/n=3\/n=4\/n=5\/n=6\/n=7\/n=8\/n=9:=by omega
 rcases h with rfl | rfl | rfl <;> (rcases hcase with rfl | rfl | rfl | rfl | rfl | rfl | rfl | rfl | rfl | rfl <;> decide)
theorem z4V {α:Type} {l:List α} {x y:α} {i:Nat} (h:(l++[x])[i]?=some y):l[i]?=some y\/(i=l.length/\y=x):=by
 rcases q_f i l.length with h' | h'
 ·rw [List.getElem?_append_left h'] at h;exact .inl h
 ·rw [List.getElem?_append_right h'] at h;rcases q_f l.length i with h2 | h2
  ·rw [q_j (by simp; omega)] at h; cases h
  ·obtain rfl:i=l.length:=by omega
   simp at h;exact .inr ⟨rfl,h.symm⟩
theorem z7d {c:UInt8} {n:Nat} (hn:n<10) (s:Zb) (hs:s.data.toList=numL n):(⟨#[c]⟩++s:Zb)=nmI c n:=by
 have e:numL n=[UInt8.ofNat (48+n)]:=by rw [numL,dif_pos hn]
 apply ByteArray.ext;apply Array.ext';simp [hs,e,nmI]
def GGs (gl:List (Zb × Int)):Prop:=(∀ x∈gl,GG x)/\z6R gl
def FFs (fl:List (Zb × List Zb)):Prop:=(∀ f∈fl,z0B f.1/\f.2.length<=2/\∀ p∈f.2,z0B p)/\zat fl
def PPs (ps:List Zb):Prop:=(∀ p∈ps,z0B p)/\zci ps
theorem zcJ:GGs []:=⟨by simp,fun i x h=>by simp at h⟩
theorem zcZ:PPs []:=⟨by simp,fun i x h=>by simp at h⟩
theorem zc6 {gl:List (Zb × Int)} {x:Zb × Int} {n:Nat} (h:GGs gl) (hx:GG x) (hn:n=gl.length) (hm:x.1=nmI 103 n):GGs (gl++[x]):=⟨fun y hy=>by
 rcases q_8.1 hy with hy | hy
 ·exact h.1 y hy
 ·simp at hy; subst hy; exact hx,fun i y hy=>by
 rcases z4V hy with h' | ⟨rfl,rfl⟩
 ·exact h.2 i y h'
 ·rw [hm,hn]⟩
theorem zeg {ps:List Zb} {x:Zb} {n:Nat} (h:PPs ps) (hx:z0B x) (hn:n=ps.length) (hm:x=nmI 112 n):PPs (ps++[x]):=⟨fun y hy=>by
 rcases q_8.1 hy with hy | hy
 ·exact h.1 y hy
 ·simp at hy; subst hy; exact hx,fun i y hy=>by
 rcases z4V hy with h' | ⟨rfl,rfl⟩
 ·exact h.2 i y h'
 ·rw [hm,hn]⟩
theorem zef {fl:List (Zb × List Zb)} {s:Zb} {ps:List Zb} {n:Nat} (h:FFs fl) (hx:z0B s) (hl:ps.length<=2) (hp:PPs ps) (hn:n=fl.length) (h1:1<=n) (hm:s=nmI 102 n):FFs (fl++[(s,ps)]):=⟨fun y hy=>by
 rcases q_8.1 hy with hy | hy
 ·exact h.1 y hy
 ·simp at hy; subst hy; exact ⟨hx,hl,hp.1⟩,fun i y hy=>by
 rcases z4V hy with h' | ⟨rfl,rfl⟩
 ·exact h.2 i y h'
 ·refine ⟨?_,fun e=>by omega,hp.2⟩;rw [if_neg (by omega),hm,hn]⟩
theorem zaG:FFs [(z1I,[])]:=⟨by
 intro f hf;simp at hf;subst hf;exact ⟨⟨by decide,by decide⟩,by decide,by simp⟩,fun i f h=>by
 have hi:i=0:=by
  rcases i with _ | i
  ·rfl
  ·simp at h
 subst hi;simp at h;subst h;exact ⟨rfl,fun _=>rfl,fun j p hp=>by simp at hp⟩⟩
def zeL (W0:World) (m g:Nat) (l:List Nat) (vf vg:Value) (gl:List (Zb × Int)) (wr:World) (n:Nat) (e:Ending) (w2:World):Prop:=∃ s:Zb,e=.returned (.string s)/\Hid (s.data.toList=numL n)/\s.size<=19/\SrcG W0 m g l vf gl vg w2/\Below wr.heap.size wr w2
theorem z7s {W0 wr w:World} {m g:Nat} {l:List Nat} {vf vg:Value} {gl:List (Zb × Int)} (h:SrcG W0 m g l vf gl vg wr) (hb:Below wr.heap.size wr w) (n:Nat) (z:Int) (hz:z=(n:Int)) (hn:n<=1000) :
  Calls Tryz.prog 32 #[.int .i64 z] w (zeL W0 m g l vf vg gl wr n) :=
 (z46 n z w hz (by omega)).mono fun _ _ ⟨s,he,hs,hb2⟩=>⟨s,he,hs,by rw [z4d hs.out]; exact z2G (by omega),h.below (z08 hb hb2),z08 hb hb2⟩
def NxF (W0:World) (m g:Nat) (l:List Nat) (gl:List (Zb × Int)) (vg:Value) (fl:List (Zb × List Zb)) (L:List Value) (vf:Value) (n:Nat) (w:World) (e:Ending) (w':World):Prop :=
 ∃ r:Nat,e=.returned (.int .i64 (r:Int))/\(1<=n->r<n)/\SrcF W0 m g l gl vg fl L vf w'/\w.grownBy w' (some g)
theorem z5Y {W0 w:World} {m g:Nat} {l:List Nat} {gl:List (Zb × Int)} {vg vf:Value} {fl:List (Zb × List Zb)} {L:List Value} (h:SrcF W0 m g l gl vg fl L vf w) (hlen:l.length<=1000000) (hl:∀ x∈l,x<256) (n:Nat) (z:Int) (hz:z=(n:Int)) (hn:n<=1000000000) :
  Calls Tryz.prog 15 #[.pointer (some ⟨g,0,none⟩),.int .i64 z] w (NxF W0 m g l gl vg fl L vf n w):=by
 subst hz;obtain ⟨k,hk⟩:=h.gs.co;exact (z25 g l k n w hk hn hlen hl).mono fun e w' ⟨r,k',h1,h2,_,h4,h5⟩=>⟨r,h1,fun hh=>by have:=h2 (by omega); omega,h.grown ⟨k',h4⟩ h5,h5⟩
theorem z6K (g:Nat) (l:List Nat) (w:World) (hc:∃ k,z0A w g l k) (hlen:l.length<=1000000) (hl:∀ x∈l,x<256) :
  Calls Tryz.prog 14 #[.pointer (some ⟨g,0,none⟩)] w (z6c g l w):=by
 have Hc:=zhi hc;have Hl:=zhi hl;have hgw:g<w.heap.size:=by obtain ⟨k,hk⟩:=hc; exact z1W hk
 have h0:SrcG ((w.alloc (.cells #[.slice none 0 0,.slice none 0 0] 31)).alloc (.cells #[.pointer (some ⟨g,0,none⟩),.slice none 0 0,.slice none 0 0,.slice none 0 0,.int .i64 0] 94)) (w.heap.size+1) g l (.slice none 0 0) [] (.slice none 0 0) ((w.alloc (.cells #[.slice none 0 0,.slice none 0 0] 31)).alloc (.cells #[.pointer (some ⟨g,0,none⟩),.slice none 0 0,.slice none 0 0,.slice none 0 0,.int .i64 0] 94)) :=
  ⟨z2t (by simp),by obtain ⟨k,hk⟩:=hc; exact ⟨k,z0C hk (((q_i _ w).alloc (q_2 _) _).alloc (by simp) _)⟩,World.ownsRow_nil _ _ _ _,Chg2.refl _ _ _,by simp,by omega⟩
 have H0:=zhi h0;have hnx:=zhi (z4f h0 hlen hl 3 3 rfl (by omega));clear hc hl h0;go_enter Tryz.func14,Tryz.ntmps14;go_upto_region 2 with fail;generalize hW0:(w.alloc (.cells #[.slice none 0 0,.slice none 0 0] 31)).alloc (.cells #[.pointer (some ⟨g,0,none⟩),.slice none 0 0,.slice none 0 0,.slice none 0 0,.int .i64 0] 94)=W0 at *;have HW0:=zhi hW0;clear hW0;go_wp2_with fail;refine hnx.out.mono ?_;rintro e w1 ⟨r1,rfl,hr1,hs1,_⟩;have hr13:=hr1 (by omega);have Hs1:=zhi hs1;clear hnx hr1 hs1;obtain ⟨m,hm⟩:∃ m,m=w.heap.size+1:=⟨_,rfl⟩;rw [<- hm] at Hs1 H0 ⊢;have Hm:=zhi hm;clear hm;go_wp2_with fail
 go_loopw [4] (fun v wr=>∃ (k:Nat) (gl:List (Zb × Int)) (vg:Value),v=.int .i64 (k:Int)/\gl.length+k<=2/\GGs gl/\SrcG W0 m g l (.slice none 0 0) gl vg wr) (fun v _=>(intOf v).toNat)
 case atStart=>exact ⟨r1,[],_,rfl,by simp; omega,zcJ,Hs1.out⟩
 case round =>
  obtain ⟨k,gl,vg,rfl,hk,hgg,hs⟩:=hrel;obtain ⟨gA,gc,rfl⟩:=z0x hs.own;obtain ⟨n,hn⟩:∃ n,n=gl.length:=⟨_,rfl⟩;rw [<- hn] at hs hk;have Hgg:=zhi hgg;have Hs:=zhi hs;have c1:=zcr 1 hs.row;have Hn:=zhi hn;clear hs hgg hn
  by_cases h0:0<k
  ·go_upto_region 5 with fail
   go_region_law (first | ((with_reducible refine z2P w5 rfl (.tmp 24) (.tmp 34) rfl n Hn.out _ _ rfl rfl Hs.out Hb5.out (by omega) ?_); intro g6 cap6 w6 hs6 c6 f6; have Hs6:=zhi hs6; clear hs6) | (go_simp; go_at_call 32; (with_reducible refine (z7s Hs.out (q_i _ wr).drew n n rfl (by omega)).mono ?_); rintro e w5 ⟨s5,rfl,hs5,hsz5,hg5,hb5⟩; have Hs5:=zhi hg5; have Hb5:=zhi hb5; have hff:=z9q (show 1+s5.size<=20 by omega) (by decide); have c5:=zcr 1 hg5.row; have c5a:=hold ((q_i _ w5).alloc (q_2 _) (.cells #[.string (⟨#[103]⟩++s5),.int .i64 0] 68)) c5; clear hg5 hb5; dsimp only))
   all_goals
    have hgd:=z3I (n:=n) (.inl rfl) (by omega) (⟨#[103]⟩++s5) (by rw [<- hs5.out]; simp);have hr:∃ (k':Nat) (gl':List (Zb × Int)) (vg':Value),Value.int .i64 ((k:Int) - 1)=.int .i64 (k':Int)/\gl'.length+k'<=2/\GGs gl'/\SrcG W0 m g l (.slice none 0 0) gl' vg' (w6.setCell ⟨m,1,none⟩ (.slice (some ⟨g6,0,none⟩) (n+1) cap6)) :=
     ⟨k - 1,gl++[(⟨#[103]⟩++s5,0)],_,by go_num,by rw [List.length_append,<- Hn.out]; simp; omega,zc6 Hgg.out ⟨hgd,Int.le_refl 0,(by simp)⟩ Hn.out (z7d (by omega) s5 hs5.out),Hs6.out⟩
    have Hr:=zhi hr;clear hr hgd hs5 hsz5 c1 c5 c5a c6 f6 hff;generalize w6.setCell ⟨m,1,none⟩ (.slice (some ⟨g6,0,none⟩) (n+1) cap6)=w7 at *;dsimp only [Exit.then,Exit.inBlock];go_wp2_with fail;exact ⟨Hr.out,by simp [intOf]; omega⟩
  ·have hk0:k=0:=by omega
   subst hk0;have Hgl:Hid (n<=2):=zhi (by omega);have hnx:=zhi (z4f Hs.out hlen Hl.out 3 3 rfl (by omega));clear h0 hk;go_wp2_with fail;refine hnx.out.mono ?_;rintro e w2 ⟨r2,rfl,hr2,hs2,_⟩;have hr23:=hr2 (by omega);have Hs2:=zhi hs2;clear hnx hr2 hs2 c1 Hs Hs1;go_wp2_with fail
   go_loopw [5] (fun v wr=>∃ (k:Nat) (gl:List (Zb × Int)) (vg:Value),v=.int .i64 (k:Int)/\gl.length+k<=4/\GGs gl/\SrcG W0 m g l (.slice none 0 0) gl vg wr) (fun v _=>(intOf v).toNat)
   case atStart=>exact ⟨r2,gl,_,rfl,by rw [<- Hn.out]; have:=Hgl.out; omega,Hgg.out,Hs2.out⟩
   case round =>
    clear Hgl Hgg Hs2 Hn n gl gA gc;obtain ⟨k,gl,vg,rfl,hk,hgg,hs⟩:=hrel;obtain ⟨gA,gc,rfl⟩:=z0x hs.own;obtain ⟨n,hn⟩:∃ n,n=gl.length:=⟨_,rfl⟩;rw [<- hn] at hs hk;have Hgg:=zhi hgg;have Hs:=zhi hs;have c1:=zcr 1 hs.row;have Hn:=zhi hn;clear hs hgg hn
    by_cases h0:0<k
    ·go_upto_region 9 with fail
     go_region_law (first | ((with_reducible refine z2P w6 rfl (.tmp 50) (.tmp 63) rfl n Hn.out _ _ rfl rfl Hs6.out (q_i _ w6) (by omega) ?_); intro g7 cap7 w7 hs7 c7 f7; have Hs7:=zhi hs7; clear hs7) | (go_simp; go_at_call 32; (with_reducible refine (z7s Hs.out (q_i _ wr).drew n n rfl (by omega)).mono ?_); rintro e w5 ⟨s5,rfl,hs5,hsz5,hg5,_⟩; have Hs5:=zhi hg5; have hff:=z9q (show 1+s5.size<=20 by omega) (by decide); have c5:=zcr 1 hg5.row; clear hg5; dsimp only) | (go_simp; go_at_call 15; (with_reducible refine (z4f Hs5.out hlen Hl.out 5 5 rfl (by omega)).mono ?_); rintro e w6 ⟨r6,rfl,hr6,hs6,_⟩; have hr65:=hr6 (by omega); have Hs6:=zhi hs6; have c6:=zcr 1 hs6.row; have c6a:=hold ((q_i _ w6).alloc (q_2 _) (.cells #[.string (⟨#[103]⟩++s5),.int .i64 (IntKind.i64.wrap (1+(r6:Int)))] 68)) c6; clear hr6 hs6; dsimp only))
     all_goals
      have hgd:=z3I (n:=n) (.inl rfl) (by omega) (⟨#[103]⟩++s5) (by rw [<- hs5.out]; simp);have hww:=z58 hr65;have hr:∃ (k':Nat) (gl':List (Zb × Int)) (vg':Value),Value.int .i64 ((k:Int) - 1)=.int .i64 (k':Int)/\gl'.length+k'<=4/\GGs gl'/\SrcG W0 m g l (.slice none 0 0) gl' vg' (w7.setCell ⟨m,1,none⟩ (.slice (some ⟨g7,0,none⟩) (n+1) cap7)) :=
       ⟨k - 1,gl++[(⟨#[103]⟩++s5,IntKind.i64.wrap (1+(r6:Int)))],_,by go_num,by rw [List.length_append,<- Hn.out]; simp; omega,zc6 Hgg.out ⟨hgd,by rw [hww]; omega,by rw [hww]; omega⟩ Hn.out (z7d (by omega) s5 hs5.out),Hs7.out⟩
      have Hr:=zhi hr;clear hr hgd hww hs5 hsz5 c1 c5 c6 c6a c7 f7 hff;generalize w7.setCell ⟨m,1,none⟩ (.slice (some ⟨g7,0,none⟩) (n+1) cap7)=w8 at *;dsimp only [Exit.then,Exit.inBlock];go_wp2_with fail;exact ⟨Hr.out,by simp [intOf]; omega⟩
    ·have hk0:k=0:=by omega
     subst hk0;have hn4:n<=4:=by omega
     go_upto_region 10 with fail;have hra:=z1L (o:=.cells #[.string ⟨#[109,97,105,110]⟩,.int .i64 0,.slice none 0 0,.slice none 0 0] 83) Hs.out.row;have c2:=zcr 2 hra;have f2:=z06 hra 2;have hm2:=zbk Hs.out;have hsp:∀ b,(Value.slice (some ⟨wr.heap.size,0,none⟩) 1 1).ownBlock=some b->(Value.slice gA n gc).ownBlock≠some b:=fun b hb e=>by
      have e2:wr.heap.size=b:=by simpa [Value.ownBlock] using hb
      have:=(Hs.out.own.lt b e).2;omega
     have hSF:=SrcF.mk hm2.1 hm2.2 hsp;have HSF:=zhi hSF;clear hra hm2 hsp hSF h0 hk;go_upto_region 11 with fail;generalize (wr.alloc (.cells #[.string ⟨#[109,97,105,110]⟩,.int .i64 0,.slice none 0 0,.slice none 0 0] 83)).setCell ⟨m,2,none⟩ (.slice (some ⟨wr.heap.size,0,none⟩) 1 1)=w3 at *;clear c1 c2 f2;have hnx:=zhi (z5Y HSF.out hlen Hl.out 4 4 rfl (by omega));go_wp2_with fail;refine hnx.out.mono ?_;rintro e w4 ⟨r4,rfl,hr4,hs4,_⟩;have hr44:=hr4 (by omega);have HSF4:=zhi hs4;clear hnx hr4 hs4 HSF;go_wp2_with fail
     go_loopw [6] (fun v wr'=>∃ (k:Nat) (fl:List (Zb × List Zb)) (L:List Value) (vf:Value),v=.int .i64 (k:Int)/\fl.length+k<=4/\1<=fl.length/\FFs fl/\SrcF W0 m g l gl (.slice gA n gc) fl L vf wr') (fun v _=>(intOf v).toNat)
     case atStart=>exact ⟨r4,_,_,_,rfl,by simp; omega,by simp,zaG,HSF4.out⟩
     case round =>
      obtain ⟨k,fl,L,vf,rfl,hk,hfl,hff,hsf⟩:=hrel;obtain ⟨fA,fc,rfl⟩:=z0x hsf.fn.own;obtain ⟨nf,hnf⟩:∃ nf,nf=fl.length:=⟨_,rfl⟩;rw [<- hnf] at hsf hk hfl;have Hff:=zhi hff;have Hsf:=zhi hsf;have Hnf:=zhi hnf;have c2:=zcr 2 hsf.gs.row;clear hff hsf hnf
      by_cases h0:0<k
      ·have hnum:=zhi (z46 nf nf wr rfl (by omega));go_wp2_with fail;refine hnum.out.mono ?_;rintro e w5 ⟨s5,rfl,hs5,hb5⟩;have hsz5:s5.size<=19:=by rw [z4d hs5.out]; exact z2G (by omega)
       have Hsf5:=zhi (Hsf.out.below hb5);have hgd:=z3I (n:=nf) (.inr (.inl rfl)) (by omega) (⟨#[102]⟩++s5) (by rw [<- hs5.out]; simp);have Hgd:=zhi hgd;have Hnm:=zhi (z7d (c:=102) (show nf<10 by omega) s5 hs5.out);clear hnum hb5 hgd hs5 c2;go_wp2_with (with_reducible refine z01 ?_);refine z07.of (z00 _ rfl _ _ _ rfl w5.heap.size _ rfl (by rfl) _ _ (q_4 w5 _) (by kernel_rfl) (by rfl) (by simp [Value.oneCell']) ?_);intro w6 hrow6 hg6;have hb6:Below w5.heap.size w5 w6:=((q_i _ w5).alloc (q_2 _) _).trans (z05 hg6 (fun k hk=>by injection hk with hk; omega) (by simp));have Hsf6:=zhi (Hsf5.out.below hb6);have Hrow6:=zhi hrow6;have h56:=hb6.size;have Hb6:=zhi hb6;clear hrow6 hg6 hb6;dsimp only [Act.put];have hnx:=zhi (z5Y Hsf6.out hlen Hl.out 3 3 rfl (by omega));go_wp2_with fail;refine hnx.out.mono ?_;rintro e w7 ⟨r7,rfl,hr7,hs7,hg7⟩;have hr73:=hr7 (by omega);have Hsf7:=zhi hs7;have hgq:w5.heap.size≠g:=by have:=Hsf5.out.gs.chg.size; have:=Hsf5.out.gs.mW; have:=Hsf5.out.gs.gm; omega
       have Hrow7:=zhi (z04 hg7 hgq Hrow6.out);have Hg67:=zhi hg7;have Hgr5:=zhi ((z02 Hb6.out (some g)).trans hg7);clear hnx hr7 hs7 hg7;have Hgr:=zhi (Hgr5.out);have hps:ParS w5 g w5.heap.size w6.heap.size l (⟨#[102]⟩++s5) [] (.slice none 0 0) w7 :=
        ⟨Hrow7.out,World.ownsRow_nil _ _ _ _,Hsf7.out.gs.co,Hgr.out,q_2 _,(q_0.1 Hrow6.out).1,Hg67.out.size,by have:=Hsf5.out.gs.chg.size; have:=Hsf5.out.gs.mW; have:=Hsf5.out.gs.gm; omega⟩
       have Hps:=zhi hps;clear hps Hgr Hgr5 Hg67 Hrow7 Hrow6 hgq;go_wp2_with fail
       go_loopw [8] (fun v wr=>∃ (k:Nat) (ps:List Zb) (pv:Value),v=.int .i64 (k:Int)/\ps.length+k<=2/\PPs ps/\ParS w5 g w5.heap.size w6.heap.size l (⟨#[102]⟩++s5) ps pv wr) (fun v _=>(intOf v).toNat)
       case atStart=>exact ⟨r7,[],_,rfl,by simp; omega,zcZ,Hps.out⟩
       case round =>
        obtain ⟨k4,ps,pv,rfl,hk4,hpp,hp⟩:=hrel;obtain ⟨pA,pc,rfl⟩:=z0x hp.own;obtain ⟨np,hnp⟩:∃ np,np=ps.length:=⟨_,rfl⟩;rw [<- hnp] at hp hk4;have Hpp:=zhi hpp;have Hp:=zhi hp;have Hnp:=zhi hnp;have d2:=zcr 2 hp.row;clear hpp hp hnp
        by_cases h40:0<k4
        ·go_upto_region 18 with fail
         go_region_law (first | ((with_reducible refine z4h w8 rfl (.tmp 96) (.tmp 102) rfl np Hnp.out _ rfl rfl Hp8.out (q_i _ w8) (by omega) ?_); intro g9 cap9 w9 hp9 d9 f9; have Hp9:=zhi hp9; clear hp9) | (go_simp; go_at_call 32; (with_reducible refine (z46 np np _ rfl (by omega)).mono ?_); rintro e w8 ⟨s8,rfl,hs8,hb8⟩; have hsz8:s8.size<=19:=(by rw [z4d hs8.out]; exact z2G (by omega)); have Hp8:=zhi (Hp.out.below (z08 (q_i _ wr).drew hb8)); have hff:=z9q (show 1+s8.size<=20 by omega) (by decide); have d8:=zcr 2 Hp8.out.row; have d8a:=hold ((q_i _ w8).alloc (q_2 _) (.cells #[.string (⟨#[112]⟩++s8)] 9)) d8; clear hb8; dsimp only))
         all_goals
          have hgp:=z3I (n:=np) (.inr (.inr rfl)) (by omega) (⟨#[112]⟩++s8) (by rw [<- hs8.out]; simp);have hr:∃ (k':Nat) (ps':List Zb) (pv':Value),Value.int .i64 ((k4:Int) - 1)=.int .i64 (k':Int)/\ps'.length+k'<=2/\PPs ps'/\ParS w5 g w5.heap.size w6.heap.size l (⟨#[102]⟩++s5) ps' pv' (w9.setCell ⟨w5.heap.size,2,none⟩ (.slice (some ⟨g9,0,none⟩) (np+1) cap9)) :=
           ⟨k4 - 1,ps++[⟨#[112]⟩++s8],_,by go_num,by rw [List.length_append,<- Hnp.out]; simp; omega,zeg Hpp.out hgp Hnp.out (z7d (by omega) s8 hs8.out),Hp9.out⟩
          have Hr:=zhi hr;clear hr hgp hs8 hsz8 d2 d8 d8a d9 f9 hff;generalize w9.setCell ⟨w5.heap.size,2,none⟩ (.slice (some ⟨g9,0,none⟩) (np+1) cap9)=wz at *;dsimp only [Exit.then,Exit.inBlock];go_wp2_with fail;exact ⟨Hr.out,by simp [intOf]; omega⟩
        ·have hk0:k4=0:=by omega
         subst hk0;have Hsf8:=zhi (Hsf5.out.grown Hp.out.co Hp.out.gr);have c28:=zcr 2 Hsf8.out.gs.row;have c28a:=hold ((q_i _ wr).alloc (q_2 _) (.cells #[.string (⟨#[102]⟩++s5),.int .i64 0,.slice pA np pc,.slice none 0 0] 83)) c28;obtain ⟨d0,d1⟩:=cl2 Hp.out.row;have d3:=zcr 3 Hp.out.row;have hown:wr.ownsRow w6.heap.size 9 1 (.slice pA np pc) ps.length (strV ps):=Hp.out.own;have hvf:∀ b,(Value.slice fA nf fc).ownBlock=some b->b<w5.heap.size:=fun b hb=>(Hsf5.out.fn.own.lt b hb).2
         have h5m:m<w5.heap.size/\W0.heap.size<=w5.heap.size:=by have:=Hsf5.out.gs.chg.size; have:=Hsf5.out.gs.mW; omega
         have Hst:Hid (z0l (fun b=>W0.heap.size<=b/\b<wr.drew.heap.size/\(Value.slice fA nf fc).ownBlock≠some b/\b≠m) wr.drew ps pA pc):=zhi (z7y (w:=wr.drew) hown (fun b hb hb2=>⟨by omega,hb2,fun e=>by have:=hvf b e; omega,by omega⟩)).2;have hlt:ps.length<=2:=by rw [<- Hnp.out]; omega
         have Hlt:=zhi hlt;clear hown hvf h5m hlt hk4 h40;go_upto_region 19 with fail;have Hst2:Hid (z0l (fun b=>W0.heap.size<=b/\b<wr.heap.size/\(Value.slice fA nf fc).ownBlock≠some b/\b≠m) wr ps pA pc):=zhi Hst.out;have hbA:=((q_i _ wr).alloc (q_2 _) (.cells #[.string (⟨#[102]⟩++s5),.int .i64 0,.slice pA np pc,.slice none 0 0] 83)).drew;have HA:=zhi (Hsf8.out.below hbA);have HstA:Hid (z0l (fun b=>W0.heap.size<=b/\b<(wr.alloc (.cells #[.string (⟨#[102]⟩++s5),.int .i64 0,.slice pA np pc,.slice none 0 0] 83)).drew.heap.size/\(Value.slice fA nf fc).ownBlock≠some b/\b≠m) (wr.alloc (.cells #[.string (⟨#[102]⟩++s5),.int .i64 0,.slice pA np pc,.slice none 0 0] 83)).drew ps pA pc):=zhi (Hst2.out.keep (fun b hb=>⟨hb.1,q_1 hb.2.1 hbA.size,hb.2.2⟩) (fun b hb=>hbA.block b hb.2.1));clear hbA
         go_region_law (first | ((refine z4g (b:=wr.heap.size) _ rfl (.tmp 110) (.tmp 112) rfl nf Hnf.out (⟨#[102]⟩++s5) ps pA np pc Hnp.out rfl rfl HA.out (z2t rfl) HstA.out (by omega) ?_); intro g9 cap9 w9 hs9 c9 f9; have Hs9:=zhi hs9; clear hs9))
         all_goals
          have hr:∃ (k':Nat) (fl':List (Zb × List Zb)) (L':List Value) (vf':Value),Value.int .i64 ((k:Int) - 1)=.int .i64 (k':Int)/\fl'.length+k'<=4/\1<=fl'.length/\FFs fl'/\SrcF W0 m g l gl (.slice gA n gc) fl' L' vf' (w9.setCell ⟨m,2,none⟩ (.slice (some ⟨g9,0,none⟩) (nf+1) cap9)) :=
           ⟨k - 1,fl++[(⟨#[102]⟩++s5,ps)],_,_,by go_num,by rw [List.length_append,<- Hnf.out]; simp; omega,by simp,zef Hff.out Hgd.out Hlt.out Hpp.out Hnf.out hfl Hnm.out,Hs9.out⟩
          have Hr:=zhi hr;clear hr c28 c28a d0 d1 d2 d3 c9 f9;generalize w9.setCell ⟨m,2,none⟩ (.slice (some ⟨g9,0,none⟩) (nf+1) cap9)=wz at *;dsimp only [Exit.then,Exit.inBlock];go_wp2_with fail;exact ⟨Hr.out,by simp [intOf]; omega⟩
      ·have hk0:k=0:=by omega
       subst hk0;go_upto_region 20 with fail;obtain ⟨fb,fc',hfe,_,hfc⟩:=z7f Hsf.out.fn.own (by rw [<- Hnf.out]; exact hfl);injection hfe with e1 e2 e3;subst e1 e3;have hsb:SrcB W0 m g l gl gA gc fl fb fc [] L wr.heap.size (.slice none 0 0) 0 wr:=SrcB.ofF (by have h:=Hsf.out; rw [Hn.out,Hnf.out] at h; exact h);have Hsb:=zhi hsb;have hnf4:nf<=4:=by omega
       have hnc:nf<=fc:=by rw [Hnf.out]; exact hsb.cells.1
       have hmf:m<fb:=by have:=(hsb.fown.lt fb rfl).1; have:=hsb.mW; omega
       clear hsb hfc Hsf c2 e2 hk h0;go_wp2_with fail
       go_loopw [9] (fun v wr2=>∃ (i:Nat) (bd:List (List St)) (L2:List Value) (bnd:Nat) (lv:Value) (bud:Int),v=.int .i64 (i:Int)/\bd.length=i/\i<=nf/\SrcB W0 m g l gl gA gc fl fb fc bd L2 bnd lv bud wr2) (fun v _=>nf - (intOf v).toNat)
       case atStart=>exact ⟨0,[],L,_,_,_,rfl,rfl,q_h _,Hsb.out⟩
       case round =>
        clear Hsb;obtain ⟨i,bd,L2,bnd,lv,bud,rfl,hbd,hin,hsb⟩:=hrel;have Hsb:=zhi hsb;have Hbd:=zhi hbd;have c2:wr.cell? ⟨m,2,none⟩=some (.slice (some ⟨fb,0,none⟩) nf fc):=by rw [zcr 2 hsb.row,Hnf.out]; rfl
        by_cases hlt:i<nf
        ·obtain ⟨f,hf⟩:∃ f,fl[i]?=some f:=⟨fl[i]'(by rw [<- Hnf.out]; exact hlt),q_7 _⟩;obtain ⟨pA,pc,bA,bc,e0,e1,e2,e3,hp,hr⟩:=hsb.at_ i f hf;have d2:=hsb.cells.2 _ _ e2;have hfm:=q_a hf;have Hfg:=zhi (Hff.out.1 f hfm);have Hfi:=zhi hf;obtain ⟨np,hnp⟩:∃ np,np=f.2.length:=⟨_,rfl⟩;rw [<- hnp] at d2;have hnp2:np<=2:=by rw [hnp]; exact Hfg.out.2.1
         have Hnp:=zhi hnp;have Hp:=zhi hp;have c3:=zcr 3 hsb.row;have f3:=z06 hsb.row 3;clear hsb hbd hp hr e0 e1 e2 e3 hnp hf hfm;go_wp2_with (at_builtin; refine z07.out ?_);refine z07.of (z3h wr rfl _ _ rfl _ np f.2 pA pc Hnp.out rfl rfl Hp.out (by omega) ?_);intro lA lc w2 hown2 hb2;have hbs:=Hsb.out.bs;have hsb2:=Hsb.out.below hb2;have c3:=zcr 3 hsb2.row;have f3:=z06 hsb2.row 3;have hms:m<wr.heap.size:=(q_0.1 Hsb.out.row).1;have hown3:(w2.setCell ⟨m,3,none⟩ (.slice lA np lc)).ownsRow wr.heap.size 9 1 (.slice lA np lc) f.2.length (strV f.2):=z0J hown2 (fun b hb=>(z03 w2 ⟨m,3,none⟩ _).block b (hown2.lt b hb).2 (fun e=>absurd (show b=m by injection e) (by have:=(hown2.lt b hb).1; omega)));have hsb3:=hsb2.set3 (.slice lA np lc);have Hown3:=zhi hown3;have Hsb3:=zhi hsb3;have hszz:=hb2.size;clear hsb2 hsb3 hown2 hown3 hb2 c2 d2;have hsz3:wr.heap.size<=(w2.setCell ⟨m,3,none⟩ (.slice lA np lc)).heap.size:=q_9 hszz (z03 w2 ⟨m,3,none⟩ _).size;go_upto_region 24 with fail;generalize w2.setCell ⟨m,3,none⟩ (.slice lA np lc)=w3 at *;clear c3 f3;have c4:=zcr 4 Hsb3.out.row;have f4:=z06 Hsb3.out.row 4;have hown4:(w3.setCell ⟨m,4,none⟩ (.int .i64 7)).ownsRow wr.heap.size 9 1 (.slice lA np lc) f.2.length (strV f.2):=z0J Hown3.out (fun b hb=>(z03 w3 ⟨m,4,none⟩ _).block b (Hown3.out.lt b hb).2 (fun e=>absurd (show b=m by injection e) (by have:=(Hown3.out.lt b hb).1; omega)));have hsb4:=Hsb3.out.set4 7;have Hown4:=zhi hown4;have Hsb4:=zhi hsb4;clear hown4 hsb4 Hown3 Hsb3;have hsz4:wr.heap.size<=(w3.setCell ⟨m,4,none⟩ (.int .i64 7)).heap.size:=q_9 hsz3 (z03 w3 ⟨m,4,none⟩ _).size;go_upto_region 25 with fail;generalize w3.setCell ⟨m,4,none⟩ (.int .i64 7)=w4 at *;clear c4 f4;have hls:LS w4 m g l ⟨gl,fl,f.2⟩ 7 wr.heap.size:=SrcB.ls (lA:=lA) (lc:=lc) (ps:=f.2) (by have h:=Hsb4.out; rw [Hnp.out] at h; exact h) (by have h:=Hown4.out; rw [Hnp.out] at h; exact h) hbs hsz4 hlen Hl.out;have hls0:=zhi (hls.below (q_i _ w4).drew).1;have hsb0:=zhi (Hsb4.out.below (q_i _ w4).drew);have hE:z1s ⟨gl,fl,f.2⟩:=⟨by show gl.length<=100; rw [<- Hn.out]; omega,by show 1<=fl.length/\fl.length<=100; rw [<- Hnf.out]; omega,by show f.2.length<=1000; rw [<- Hnp.out]; omega,Hgg.out.1,Hff.out.1,Hfg.out.2.2⟩;have HE:=zhi hE;have hnx:=zhi (z0q 4 4 hls0.out.gs rfl (by omega));have c2a:w4.cell? ⟨m,2,none⟩=some (.slice (some ⟨fb,0,none⟩) nf fc):=by rw [zcr 2 Hsb4.out.row,Hnf.out]; rfl
         clear hls hE Hown4
         go_region_law (first | (go_simp; go_at_call 15; (with_reducible refine hnx.out.mono ?_); rintro e w5 ⟨r5,rfl,hr5,_,hgs5,hg5⟩; have hr54:=hr5 (by omega); have Hl5:=zhi (hls0.out.grown hgs5 hg5).1; have Hsb5:=zhi (hsb0.out.grown hgs5.co hg5); have c25:w5.cell? ⟨m,2,none⟩=some (.slice (some ⟨fb,0,none⟩) nf fc):=(by rw [zcr 2 Hsb5.out.row,Hnf.out]; rfl); clear hr5 hgs5 hg5; dsimp only) | (go_simp; go_at_call 33; (with_reducible refine (zaz 2 _ (1+r5) rfl (by rw [z58 (show r5<5 by omega)]; omega) (by omega) HE.out Hl5.out (by omega) (by show (f.2.length:Int)+7<=1000; rw [<- Hnp.out]; omega)).mono ?_); rintro e w6 ⟨E6,b6,ts6,A6,c6,rfl,hlike6,hls6,hb60,hb6b,hln6,hchg6,hgst6,hcnt6,hts6,L6,hrow6⟩; obtain ⟨lv6,hsb6⟩:=Hsb5.out.made Hl5.out hbs hchg6 hls6; have hsz5:=(show wr.heap.size<=w5.heap.size from Hl5.out.bs); have Hst:=zhi (hsb6.store (by rw [Hbd.out,<- Hnf.out]; exact hlt) hrow6.row.2 (fun b hb=>⟨(by have:=hsb6.flt; have:=(hsb6.fown.lt fb rfl).1; omega),hb.2.1,(by have:=hsb6.flt; omega)⟩) ⟨hgst6.1,(by have h9:=(show ((ts6.map (cntS 3)).sum:Int)<=11 * (7 - b6) from hcnt6); omega)⟩ ⟨f,E6.locals,(by rw [Hbd.out]; exact Hfi.out),hgst6.2⟩); have c26:w6.cell? ⟨m,2,none⟩=some (.slice (some ⟨fb,0,none⟩) nf fc):=(by rw [zcr 2 hsb6.row,Hnf.out]; rfl); obtain ⟨⟨uv,du⟩,fu⟩:=Hst.out.2; rw [Hbd.out] at du fu; clear hlike6 hls6 hchg6 hgst6 hcnt6 hrow6 hsb6; dsimp only))
         all_goals
          have hr:∃ (i':Nat) (bd':List (List St)) (L2':List Value) (bnd':Nat) (lv':Value) (bud':Int),Value.int .i64 ((i:Int)+1)=.int .i64 (i':Int)/\bd'.length=i'/\i'<=nf/\SrcB W0 m g l gl gA gc fl fb fc bd' L2' bnd' lv' bud' (w6.setCell ⟨fb,i * 4+3,none⟩ (.slice A6 ts6.length c6)) :=
           ⟨i+1,bd++[ts6],_,_,_,_,by go_num,by simp [Hbd.out],by omega,by have h:=Hst.out.1; rw [Hbd.out] at h; exact h⟩
          have Hr:=zhi hr;clear hr du fu c25 c26;generalize w6.setCell ⟨fb,i * 4+3,none⟩ (.slice A6 ts6.length c6)=w7 at *;dsimp only [Exit.then,Exit.inBlock];go_wp2_with fail;refine ⟨?_,?measure⟩
          (repeat apply Exists.intro)
          refine ⟨?rel,rfl⟩
          case rel=>exact Hr.out
          case measure=>simp [intOf]; omega
        ·have hie:i=nf:=by omega
         subst hie;have c1:wr.cell? ⟨m,1,none⟩=some (.slice gA n gc):=by rw [zcr 1 hsb.row,Hn.out]; rfl
         have hrb:wr.heap[w.heap.size]?=some (.cells #[.slice none 0 0,.slice none 0 0] 31 (0,0)):=by
          have h1:=hsb.mW;have h2:=hsb.gm;rw [hsb.chg.block w.heap.size (by rw [<- HW0.out]; simp; omega) (by rw [Hm.out]; omega) (by omega),<- HW0.out];exact (((q_i _ (w.alloc (.cells #[.slice none 0 0,.slice none 0 0] 31))).alloc (q_2 _) _).block w.heap.size (by simp)).trans (q_4 w _)
         have Hrb:=zhi hrb;clear hsb hrb hbd;go_wp2_with (with_reducible refine z01 ?_);refine z07.of (z00 _ rfl _ _ _ rfl w.heap.size _ rfl (by rfl) _ _ Hrb.out (by kernel_rfl) (by rfl) (by simp [Value.oneCell']) ?_);intro w9 hrow hg9;obtain ⟨k0,k1⟩:=cl2 hrow;have HH:Hid (z6c g l w (.returned (.agg #[.slice gA n gc,.slice (some ⟨fb,0,none⟩) i fc])) w9):=zhi (by
          rw [Hn.out,Hnf.out];exact z85 HW0.out Hm.out Hsb.out (by rw [Hbd.out,Hnf.out]) hgw hg9 Hgg.out.1 Hff.out.1 (by rw [<- Hn.out]; exact hn4) (by rw [<- Hnf.out]; exact hfl) (by rw [<- Hnf.out]; exact hnf4) Hgg.out.2 Hff.out.2)
         clear hrow hg9;go_wp2_with fail;refine q_3 ?_ rfl HH.out;simp [results,Tryz.results14,go_sem,k0,k1]
end Go.Proofs.YtdflbhofmmlpgaaGreat
