/-
  Kv: Gen14, Gen15. Walks and laws that the statement's proof is made of. No condition of its own.
-/
import Derived.Test.YtleicdfkagejoaaKu
namespace Go.Proofs.Ytleicdfkagejoaa
open Go.RowKit
theorem z1S {ops:Array Oper} {rest:List Oper} {o:Oper} {a:Act} {Q:Exit→Act→World→Prop} (w:World) (hgd:o.guard=none) (s x:Operand)
  (ho:o.op=.call { callee:=.builtin .append,args:=#[s,x],argTypes:=#[70,70] }) (m g:Nat) (l:List Nat) (E:Env) (bud:Int) (base:Nat) (v:Value) (nm:ByteArray)
  (h:LS w m g l E bud base) (hv:w.cell? ⟨m,3,none⟩=some v) (hs:a.eval s=v) (hx:a.eval x=.slice (some ⟨w.heap.size,0,none⟩) 1 1) (hlen:E.locals.length≤1000)
  (hk:∀ g' cap w' old,w'.cell? ⟨m,3,none⟩=some old→w'.frozen? ⟨m,3,none⟩=false→LS (w'.setCell ⟨m,3,none⟩ (.slice (some ⟨g',0,none⟩) (E.locals.length+1) cap)) m g l { E with locals:=E.locals++[nm] } bud base→Chg m g w (w'.setCell ⟨m,3,none⟩ (.slice (some ⟨g',0,none⟩) (E.locals.length+1) cap)) →
   wpList Try.prog ops Q rest (a.put o.dst (.slice (some ⟨g',0,none⟩) (E.locals.length+1) cap)) w') :
  wpList Try.prog ops Q (o :: rest) a (w.alloc (.cells #[.string nm] 9)):=by
 obtain ⟨i,hi,hz,hsz,hby⟩:=info_parts z3S
 obtain ⟨v',hv',ho'⟩:=h.own
 rw [hv] at hv'
 injection hv' with hv'
 subst hv'
 have hmb:=h.mb
 have hbs:=h.bs
 refine wpList_append_lies _ hgd s x _ ho base 9 i _ 1 16 Try.underlying70 hi hz hsz hby rfl (by decide) v E.locals.length (strV E.locals) hs (ho'.alloc _) ⟨w.heap.size,0,none⟩ 1 1 [.string nm] hx (by simp) ?_ ?_ (by decide) (by unfold maxLen; omega) (by omega) (by simp; omega) _ rfl fun g' cap w' h1 h2 h3 h4=>?_
 ·intro j u hu
  rw [Addr.add_lit,Nat.zero_add]
  exact (cell_of_row _ _ _ _ _ _ (heap_alloc_new w _)).trans (by simpa using hu)
 ·intro u hu
  simp at hu
  subst hu
  rfl
 ·have hb:=(Below.refl _ w).alloc (Nat.le_refl _) (.cells #[.string nm] 9)
  have hcap:E.locals.length+1≤cap:=by
   rcases h1.2 with ⟨e,_⟩ | ⟨g'',cap',cur,e,_,_,hc,_⟩
   ·cases e
   ·injection e with _ _ e; subst e; exact hc
  have hgb:base≤g':=(h1.lt g' rfl).1
  have hbw:Below base w w':=(hb.mono h.bs).trans (z07 h2 (fun b hb'=>(ho'.lt b hb').1) (by simp; omega))
  obtain ⟨gA,gc,fA,fc,lA,lc,h0,_⟩:=h.gs.mka
  have h0':=(hbw.block m hmb).trans h0
  have hl:=h.local hb hv h1 hcap h2 h3 hgb
  exact hk g' cap w' _ (cell_of_row _ _ 3 _ _ _ h0') (z06 h0' 3) hl.1 hl.2
theorem z1o.push {E:Env} {s:ByteArray} (h:z1o E) (hs:z0E s) (hl:E.locals.length+1≤1000):z1o { E with locals:=E.locals++[s] } :=
 ⟨h.gn,h.fn,by simpa using hl,h.gs,h.fs,fun t ht=>by
  rcases List.mem_append.1 ht with ht | ht
  ·exact h.ls t ht
  ·simp at ht; subst ht; exact hs⟩
def zbJ (m g:Nat) (l:List Nat) (base d:Nat):Prop:=∀ (E:Env) (bud:Int) (w:World) (z:Int),z=(d:Int)→z1o E→LS w m g l E bud base→0≤bud→(E.locals.length:Int)+1+bud≤1000 →
 Calls Try.prog 66 #[.pointer (some ⟨m,0,none⟩),.int .i64 z] w (z1d m g l E bud base d w)
theorem z0M {W wc:World} {m g base:Nat} {l:List Nat} {E:Env} {bud:Int} (h:SS W m g l E bud base wc) (hE:z1o E):Calls Try.prog 64 #[.pointer (some ⟨m,0,none⟩),.int .i64 2] wc (ExS W m g l E bud base wc):=za0 h hE 2 (.inr rfl) 2 rfl
theorem zbj {W wc:World} {m g base:Nat} {l:List Nat} {E:Env} {bud:Int} (h:SS W m g l E bud base wc) (hE:z1o E):Calls Try.prog 64 #[.pointer (some ⟨m,0,none⟩),.int .i64 1] wc (ExS W m g l E bud base wc):=za0 h hE 1 (.inl rfl) 1 rfl
theorem z9f {F:Nat→Prop} {w:World} {L:List ByteArray} {rr c:Nat} (h:z0q F w L (some ⟨rr,0,none⟩) c):∃ sn:Nat→ByteArray,(∀ q,q<L.length→w.cell? ⟨rr,q,none⟩=some (.string (sn q)))∧∀ q,q<L.length→sn q∈L:=by
 have key:∀ q (hq:q<L.length),w.cell? ⟨rr,q,none⟩=some (.string L[q]):=fun q hq=>by
  obtain ⟨r,hA,_,e0⟩:=h.2 q _ (List.getElem?_eq_getElem hq)
  injection hA with hA
  injection hA with hA
  subst hA
  exact e0
 refine ⟨fun q=>match w.cell? ⟨rr,q,none⟩ with | some (.string s)=>s | _=>⟨#[]⟩,fun q hq=>?_,fun q hq=>?_⟩
 ·simp only [key q hq]
 ·simp only [key q hq]
  exact List.getElem_mem hq
theorem z4A {w w':World} {m g rr ln lc:Nat} {sn:Nat→ByteArray} (hm:m≠g) (hr:rr≠g) (hg:w.grownBy w' (some g)) (h:w.cell? ⟨m,3,none⟩=some (.slice (some ⟨rr,0,none⟩) ln lc)∧(∀ q,q<ln→w.cell? ⟨rr,q,none⟩=some (.string (sn q)))):w'.cell? ⟨m,3,none⟩=some (.slice (some ⟨rr,0,none⟩) ln lc)∧(∀ q,q<ln→w'.cell? ⟨rr,q,none⟩=some (.string (sn q))) :=
 ⟨z0a hg hm h.1,fun q hq=>z0a hg hr (h.2 q hq)⟩
theorem z7J {w w':World} {m rr ln lc:Nat} {sn:Nat→ByteArray} (hb:Below w.heap.size w w') (h:w.cell? ⟨m,3,none⟩=some (.slice (some ⟨rr,0,none⟩) ln lc)∧(∀ q,q<ln→w.cell? ⟨rr,q,none⟩=some (.string (sn q)))):w'.cell? ⟨m,3,none⟩=some (.slice (some ⟨rr,0,none⟩) ln lc)∧(∀ q,q<ln→w'.cell? ⟨rr,q,none⟩=some (.string (sn q))) :=
 ⟨hold hb h.1,fun q hq=>hold hb (h.2 q hq)⟩
theorem z9e {w:World} {m b rr ln lc:Nat} {sn:Nat→ByteArray} {v0 v1 v2 v3 v4 v5:Value} (hm:m≠b) (hr:rr≠b) (h:w.cell? ⟨m,3,none⟩=some (.slice (some ⟨rr,0,none⟩) ln lc)∧(∀ q,q<ln→w.cell? ⟨rr,q,none⟩=some (.string (sn q)))) :
  ((((((w.setCell ⟨b,0,none⟩ v0).setCell ⟨b,1,none⟩ v1).setCell ⟨b,2,none⟩ v2).setCell ⟨b,3,none⟩ v3).setCell ⟨b,4,none⟩ v4).setCell ⟨b,5,none⟩ v5).cell? ⟨m,3,none⟩=some (.slice (some ⟨rr,0,none⟩) ln lc)∧(∀ q,q<ln→((((((w.setCell ⟨b,0,none⟩ v0).setCell ⟨b,1,none⟩ v1).setCell ⟨b,2,none⟩ v2).setCell ⟨b,3,none⟩ v3).setCell ⟨b,4,none⟩ v4).setCell ⟨b,5,none⟩ v5).cell? ⟨rr,q,none⟩=some (.string (sn q))) :=
 ⟨keep6 hm h.1,fun q hq=>keep6 hr (h.2 q hq)⟩
theorem zaS {W wc:World} {m g base rr:Nat} {l:List Nat} {E:Env} {bud:Int} (h:SS W m g l E bud base wc) (hE:z1o E) (_:rr≠g):Calls Try.prog 64 #[.pointer (some ⟨m,0,none⟩),.int .i64 2] wc fun e w2 =>
  ∃ x k o a lf s A n c,e=.returned (.agg #[.int .i64 k,.int .i64 o,.int .i64 a,.int .i64 lf,.string s,.slice A n c])∧GX E 2 x∧ExV (Made m W w2) w2 3 x (.agg #[.int .i64 k,.int .i64 o,.int .i64 a,.int .i64 lf,.string s,.slice A n c])∧SS W m g l E bud base w2∧wc.grownBy w2 (some g) :=
 ((z34 m g l E bud hE 2 (by omega)) wc 2 rfl h.ls.gs).mono fun e w2 hr=>by
  have hg:wc.grownBy w2 (some g):=by obtain ⟨_,_,_,_,_,_,hg⟩:=hr; exact hg
  obtain ⟨x,k,o,a,lf,s,A,n,c,h1,h2,h3,h4,_⟩:=z8w h (.inr rfl) hr
  exact ⟨x,k,o,a,lf,s,A,n,c,h1,h2,h3,h4,hg⟩
theorem zcG {W wc:World} {m g base:Nat} {l:List Nat} {E:Env} {bud:Int} {x:Ex} {k' o a lf:Int} {s':ByteArray} {A:Option Addr} {n c:Nat} (h:SS W m g l E bud base wc) (hx:ExV (Made m W wc) wc 3 x (.agg #[.int .i64 k',.int .i64 o,.int .i64 a,.int .i64 lf,.string s',.slice A n c])) (k:Int) (s:ByteArray) :
  Calls Try.prog 63 #[.int .i64 k,.string s,.agg #[.int .i64 k',.int .i64 o,.int .i64 a,.int .i64 lf,.string s',.slice A n c]] wc fun e w2=>∃ b,e=.returned (.agg #[.int .i64 k,.int .i64 0,.string s,.slice (some ⟨b,0,none⟩) 1 1,.slice none 0 0,.slice none 0 0])∧RowE (Made m W w2) w2 3 [x] (some ⟨b,0,none⟩) 1∧SS W m g l E bud base w2∧Below wc.heap.size wc w2 :=
 (z5i k s k' o a lf s' A n c wc).mono fun _ _ ⟨b,h1,h2,he,hrow,hb⟩=>by
  obtain ⟨hs,hc⟩:=h.below hb
  have hm:=Nat.lt_of_lt_of_le h.mW h.chg.size
  exact ⟨b,he,z2A hx (fun b hb=>(z14 hc h.mW h.gW b hb).1) (fun b hb=>(z14 hc h.mW h.gW b hb).2) (h.fresh (World.cell?_of_block (hb.block m hm)).symm h1 h2) hrow,hs,hb⟩
end Go.Proofs.Ytleicdfkagejoaa
namespace Go.Proofs.Ytleicdfkagejoaa
open Go.RowKit
set_option maxRecDepth 100000 in
set_option maxHeartbeats 16000000 in
theorem z60 (m g:Nat) (l:List Nat) (base d:Nat) (hd:d≤5) (hB:∀ d',d=d'+1→z3V m g l base d') (hL:1≤d→zbJ m g l base d):z8c m g l base d:=by
 intro E bud w z hz hE hls hb0 hln
 have Hls:=zhi hls
 have HE:=zhi hE
 have Hb0:=zhi hb0
 have Hln:=zhi hln
 have HBc:=zhi hB
 have HLc:=zhi hL
 have hz0:0≤z:=by omega
 have hz6:z≤6:=by omega
 have Hz:=zhi hz
 have hmb:=hls.mb
 have hgm:=hls.gb
 have hbs:=hls.bs
 have hss:=SS.start hls (.cells #[.int .i64 0,.int .i64 0,.string { data:=#[] },.slice none 0 0,.slice none 0 0,.slice none 0 0] 109)
 obtain ⟨_,_,_,_,_,_,c0,z1,z2,z3,z4,z5,z6,z7⟩:=hss.ls.gs.cells
 have Hss:=zhi hss
 clear z1 z2 z3 z4 z5 z6 z7 hss hls hE hb0 hln hB hL hz
 go_enter Try.func45,Try.ntmps45
 go_upto_region 1 with fail
 generalize hWe:w.alloc (.cells #[.int .i64 0,.int .i64 0,.string { data:=#[] },.slice none 0 0,.slice none 0 0,.slice none 0 0] 109)=W at *
 have HW:=zhi hWe.symm
 clear hWe
 have hnx:=zhi (z17 Hss.out 10 10 rfl (by omega))
 go_wp2_with fail
 refine hnx.out.mono ?_
 rintro e w1 ⟨r,rfl,hr0,hss,hc,_⟩
 have hrb:=hr0 (by omega)
 replace Hss:=zhi hss
 clear hnx hr0 hss hc
 clear c0
 have hcase:r=0∨r=1∨r=2∨r=3∨r=4∨r=5∨r=6∨r=7∨r=8∨r=9:=by omega
 clear hrb
 rcases hcase with rfl | rfl | rfl | rfl | rfl | rfl | rfl | rfl | rfl | rfl
 ·have hpk:=zhi ((z7o Hss.out HE.out))
  go_wp2_with fail
  refine hpk.out.mono ?_
  rintro e w2 ⟨s,ok,rfl,hok,hss,hc⟩
  have HS:=zhi hok
  replace Hss:=zhi hss
  clear hpk hok hss hc
  cases ok with
  | true =>
   replace HS:=zhi (HS.out rfl)
   have hex:=zhi (z0M Hss.out HE.out)
   go_wp2_with fail
   refine hex.out.mono ?_
   rintro e w3 ⟨x,k,o,a,lf,s',A,n,c,rfl,hge,hx,hss,hc⟩
   have HG:=zhi hge
   have HX:=zhi hx
   replace Hss:=zhi hss
   clear hex hge hx hss hc
   have hon:=zhi (z1n Hss.out HX.out 1 s)
   go_wp2_with fail
   refine hon.out.mono ?_
   rintro e w4 ⟨b,rfl,hr,hss,hc⟩
   have HR:=zhi hr
   replace Hss:=zhi hss
   clear hon hr hss hc HX
   go_wp2_with (with_reducible refine z01 ?_)
   refine z08.of (z00 _ rfl _ _ _ rfl w4.heap.size _ rfl (by rfl) _ _ (heap_alloc_new w4 _) (by kernel_rfl) (by rfl) (by simp [Value.oneCell']) ?_)
   intro w5 hrow5 hg5
   obtain ⟨hif,hc5,hmd⟩:=IfSt.make Hss.out hg5 hrow5
   have HI:=zhi hif
   have HRM:=zhi (HR.out.keep (fun b hb=>(hmd b hb).1) (fun b hb=>(hmd b hb).2))
   obtain ⟨gA,gc,fA,fc,lA,lc,y0,y1,y2,y3,y4,y5,y6,y7⟩:=hif.ss.ls.gs.cells
   clear hg5 hrow5 hif hc5 hmd HR y0 y1 y2 y4 y5 y6 y7
   go_wp2_with (at_builtin; refine z08.out ?_)
   refine z08.of (z1S w5 rfl (.tmp 37) (.tmp 39) rfl m g l E bud base _ s HI.out.ss.ls y3 rfl rfl HE.out.ln ?_)
   intro g' cap w6 old hm6 hf6 hls6 hc6
   have Hls6:=zhi hls6
   have Hc6:=zhi hc6
   clear hls6 hc6 y3
   go_upto_region 9 with fail
   generalize w6.setCell ⟨m,3,none⟩ (.slice (some ⟨g',0,none⟩) (E.locals.length+1) cap)=w7 at *
   have hI7:=HI.out.step (E':={ E with locals:=E.locals++[s] }) (bud':=bud) ⟨Hls6.out,HI.out.ss.chg.trans Hc6.out,HI.out.ss.bw⟩ Hc6.out
   have HRW:Hid (RowE (Made m W w7) w7 3 [x] (some ⟨b,0,none⟩) 1):=zhi (HRM.out.keep (fun b hb=>(z0e HI.out.ss Hc6.out b hb).1.1) (fun b hb=>(z0e HI.out.ss Hc6.out b hb).2))
   obtain ⟨e0,e1,e2,e3,e4,e5⟩:=cl6 hI7.row
   replace Hss:=zhi hI7.ss
   clear hm6 hf6 hI7
   have HB:=zhi (Hss.out.res HW.out Hls.out)
   go_wp2_with (with_reducible refine z01 ?_)
   refine z08.of (z00 _ rfl _ _ _ rfl w.heap.size _ rfl (by rfl) _ _ HB.out (by kernel_rfl) (by rfl) (by simp [Value.oneCell']) ?_)
   intro w9 hrow hg9
   obtain ⟨k0,k1,k2,k3,k4,k5⟩:=cl6 hrow
   have Hg9:=zhi hg9
   clear hrow hg9
   have HH:Hid (z1d m g l E bud base d w _ w9):=zhi (z2m Hss.out HW.out Hls.out ⟨rfl,rfl,HE.out.push HS.out.1 (by have:=Hln.out; have:=Hb0.out; omega)⟩ Hb0.out (Int.le_refl _) (by have:=Hln.out; simp; omega) Hg9.out (z8Q HG.out HS.out) z4S (z5o HRW.out))
   go_wp2_with fail
   refine bodyPost_ret ?_ rfl HH.out
   simp [results,Try.results45,go_sem,k0,k1,k2,k3,k4,k5]
  | false =>
        have hex:=zhi (z0M Hss.out HE.out)
        go_wp2_with fail
        refine hex.out.mono ?_
        rintro e w3 ⟨x,k,o,a,lf,s',A,n,c,rfl,hge,hx,hss,hc⟩
        have HG:=zhi hge
        have HX:=zhi hx
        replace Hss:=zhi hss
        clear hex hge hx hss hc
        have hon:=zhi (z1n Hss.out HX.out 7 ⟨#[]⟩)
        go_wp2_with fail
        refine hon.out.mono ?_
        rintro e w4 ⟨b,rfl,hr,hss,hc⟩
        have HR:=zhi hr
        replace Hss:=zhi hss
        clear hon hr hss hc HX
        have HB:=zhi (Hss.out.res HW.out Hls.out)
        go_wp2_with (with_reducible refine z01 ?_)
        refine z08.of (z00 _ rfl _ _ _ rfl w.heap.size _ rfl (by rfl) _ _ HB.out (by kernel_rfl) (by rfl) (by simp [Value.oneCell']) ?_)
        intro w9 hrow hg9
        obtain ⟨k0,k1,k2,k3,k4,k5⟩:=cl6 hrow
        have Hg9:=zhi hg9
        clear hrow hg9
        have HH:Hid (z1d m g l E bud base d w _ w9):=zhi (z1u (k:=7) (s:=⟨#[]⟩) Hss.out HW.out Hls.out HE.out Hb0.out Hln.out Hg9.out HG.out (.inr ⟨.inr (.inl rfl),rfl⟩) HR.out)
        go_wp2_with fail
        refine bodyPost_ret ?_ rfl HH.out
        simp [results,Try.results45,go_sem,k0,k1,k2,k3,k4,k5]
 ·have hpk:=zhi ((z7o Hss.out HE.out))
  go_wp2_with fail
  refine hpk.out.mono ?_
  rintro e w2 ⟨s,ok,rfl,hok,hss,hc⟩
  have HS:=zhi hok
  replace Hss:=zhi hss
  clear hpk hok hss hc
  cases ok with
  | true =>
   replace HS:=zhi (HS.out rfl)
   have hex:=zhi (z0M Hss.out HE.out)
   go_wp2_with fail
   refine hex.out.mono ?_
   rintro e w3 ⟨x,k,o,a,lf,s',A,n,c,rfl,hge,hx,hss,hc⟩
   have HG:=zhi hge
   have HX:=zhi hx
   replace Hss:=zhi hss
   clear hex hge hx hss hc
   have hon:=zhi (z1n Hss.out HX.out 1 s)
   go_wp2_with fail
   refine hon.out.mono ?_
   rintro e w4 ⟨b,rfl,hr,hss,hc⟩
   have HR:=zhi hr
   replace Hss:=zhi hss
   clear hon hr hss hc HX
   go_wp2_with (with_reducible refine z01 ?_)
   refine z08.of (z00 _ rfl _ _ _ rfl w4.heap.size _ rfl (by rfl) _ _ (heap_alloc_new w4 _) (by kernel_rfl) (by rfl) (by simp [Value.oneCell']) ?_)
   intro w5 hrow5 hg5
   obtain ⟨hif,hc5,hmd⟩:=IfSt.make Hss.out hg5 hrow5
   have HI:=zhi hif
   have HRM:=zhi (HR.out.keep (fun b hb=>(hmd b hb).1) (fun b hb=>(hmd b hb).2))
   obtain ⟨gA,gc,fA,fc,lA,lc,y0,y1,y2,y3,y4,y5,y6,y7⟩:=hif.ss.ls.gs.cells
   clear hg5 hrow5 hif hc5 hmd HR y0 y1 y2 y4 y5 y6 y7
   go_wp2_with (at_builtin; refine z08.out ?_)
   refine z08.of (z1S w5 rfl (.tmp 37) (.tmp 39) rfl m g l E bud base _ s HI.out.ss.ls y3 rfl rfl HE.out.ln ?_)
   intro g' cap w6 old hm6 hf6 hls6 hc6
   have Hls6:=zhi hls6
   have Hc6:=zhi hc6
   clear hls6 hc6 y3
   go_upto_region 9 with fail
   generalize w6.setCell ⟨m,3,none⟩ (.slice (some ⟨g',0,none⟩) (E.locals.length+1) cap)=w7 at *
   have hI7:=HI.out.step (E':={ E with locals:=E.locals++[s] }) (bud':=bud) ⟨Hls6.out,HI.out.ss.chg.trans Hc6.out,HI.out.ss.bw⟩ Hc6.out
   have HRW:Hid (RowE (Made m W w7) w7 3 [x] (some ⟨b,0,none⟩) 1):=zhi (HRM.out.keep (fun b hb=>(z0e HI.out.ss Hc6.out b hb).1.1) (fun b hb=>(z0e HI.out.ss Hc6.out b hb).2))
   obtain ⟨e0,e1,e2,e3,e4,e5⟩:=cl6 hI7.row
   replace Hss:=zhi hI7.ss
   clear hm6 hf6 hI7
   have HB:=zhi (Hss.out.res HW.out Hls.out)
   go_wp2_with (with_reducible refine z01 ?_)
   refine z08.of (z00 _ rfl _ _ _ rfl w.heap.size _ rfl (by rfl) _ _ HB.out (by kernel_rfl) (by rfl) (by simp [Value.oneCell']) ?_)
   intro w9 hrow hg9
   obtain ⟨k0,k1,k2,k3,k4,k5⟩:=cl6 hrow
   have Hg9:=zhi hg9
   clear hrow hg9
   have HH:Hid (z1d m g l E bud base d w _ w9):=zhi (z2m Hss.out HW.out Hls.out ⟨rfl,rfl,HE.out.push HS.out.1 (by have:=Hln.out; have:=Hb0.out; omega)⟩ Hb0.out (Int.le_refl _) (by have:=Hln.out; simp; omega) Hg9.out (z8Q HG.out HS.out) z4S (z5o HRW.out))
   go_wp2_with fail
   refine bodyPost_ret ?_ rfl HH.out
   simp [results,Try.results45,go_sem,k0,k1,k2,k3,k4,k5]
  | false =>
        have hex:=zhi (z0M Hss.out HE.out)
        go_wp2_with fail
        refine hex.out.mono ?_
        rintro e w3 ⟨x,k,o,a,lf,s',A,n,c,rfl,hge,hx,hss,hc⟩
        have HG:=zhi hge
        have HX:=zhi hx
        replace Hss:=zhi hss
        clear hex hge hx hss hc
        have hon:=zhi (z1n Hss.out HX.out 7 ⟨#[]⟩)
        go_wp2_with fail
        refine hon.out.mono ?_
        rintro e w4 ⟨b,rfl,hr,hss,hc⟩
        have HR:=zhi hr
        replace Hss:=zhi hss
        clear hon hr hss hc HX
        have HB:=zhi (Hss.out.res HW.out Hls.out)
        go_wp2_with (with_reducible refine z01 ?_)
        refine z08.of (z00 _ rfl _ _ _ rfl w.heap.size _ rfl (by rfl) _ _ HB.out (by kernel_rfl) (by rfl) (by simp [Value.oneCell']) ?_)
        intro w9 hrow hg9
        obtain ⟨k0,k1,k2,k3,k4,k5⟩:=cl6 hrow
        have Hg9:=zhi hg9
        clear hrow hg9
        have HH:Hid (z1d m g l E bud base d w _ w9):=zhi (z1u (k:=7) (s:=⟨#[]⟩) Hss.out HW.out Hls.out HE.out Hb0.out Hln.out Hg9.out HG.out (.inr ⟨.inr (.inl rfl),rfl⟩) HR.out)
        go_wp2_with fail
        refine bodyPost_ret ?_ rfl HH.out
        simp [results,Try.results45,go_sem,k0,k1,k2,k3,k4,k5]
 ·obtain ⟨_,_,_,_,lA,lc,z0,z1,z2,b3,z4,z5,z6,q3⟩:=Hss.out.ls.gs.cells
  obtain ⟨ln,hln⟩:∃ ln,ln=E.locals.length:=⟨_,rfl⟩
  have hcap:ln≤lc:=by rw [hln]; exact q3.1
  have hlc:ln≤1000:=by rw [hln]; exact HE.out.ln
  rw [← hln] at b3
  have HLL:=zhi hln
  have Q3:=zhi q3
  clear hln z0 z1 z2 z4 z5 z6 q3
  by_cases h0:0<ln
  ·obtain ⟨rr,rfl,hrg,_⟩:=z2C Q3.out (by rw [← HLL.out]; exact h0)
   obtain ⟨sn,hsn,hsm⟩:=z9f Q3.out
   rw [← HLL.out] at hsn hsm
   have Hsm:=zhi hsm
   have hmg:=Hss.out.ls.gs.ne
   have hmw:=Nat.lt_of_lt_of_le Hss.out.mW Hss.out.chg.size
   have HB:=zhi (Hss.out.res HW.out Hls.out)
   have hrw:rr<w1.heap.size:=World.block_lt_of_cell? _ _ (hsn 0 h0)
   have hrb:rr≠w.heap.size:=fun e=>by
    have h1:=hsn 0 h0
    rw [e,cell_of_row _ _ 0 _ _ _ HB.out] at h1
    simp at h1
   have hmb2:m≠w.heap.size:=by omega
   have hdr:=Hss.out.below (Below.refl _ w1).drew
   have HD:=zhi hdr.1
   have hnl:=zhi (z17 hdr.1 ln ln rfl (by omega))
   have hS0:w1.drew.cell? ⟨m,3,none⟩=some (.slice (some ⟨rr,0,none⟩) ln lc)∧(∀ q,q<ln→w1.drew.cell? ⟨rr,q,none⟩=some (.string (sn q))):=⟨b3,hsn⟩
   clear hsm hsn hdr
   go_upto_region 12 with fail
   go_region_held3 (fun w'=>w'.cell? ⟨m,3,none⟩=some (.slice (some ⟨rr,0,none⟩) ln lc)∧(∀ q,q<ln→w'.cell? ⟨rr,q,none⟩=some (.string (sn q))))
    (first | (with_reducible exact hS0) | (with_reducible exact hS2) | (with_reducible exact hS3) | (with_reducible exact hS4) | (with_reducible exact z9e hmb2 hrb hS4))
    (first | (go_at_call 14; (with_reducible refine hnl.out.mono ?_); rintro e w2 ⟨q,rfl,hq1,hss2,hc2,hg2⟩; have hq:q<ln:=(hq1 (by omega)); have hS2:=z4A hmg hrg hg2 hS0; have Hss2:=zhi hss2; have HR2:=zhi (z0a hg2 hrg (hS0.2 q hq)); clear hq1 hss2 hc2 hg2) | (go_at_call 64; (with_reducible refine (zaS Hss2.out HE.out hrg).mono ?_); rintro e w3 ⟨x,k,o,a,lf,s',A,n,c,rfl,hge,hx,hss3,hg3⟩; have hS3:=z4A hmg hrg hg3 hS2; have HG:=zhi hge; have HX:=zhi hx; have Hss3:=zhi hss3; clear hge hx hss3 hg3) | (go_at_call 63; (with_reducible refine (zcG Hss3.out HX.out 2 (sn q)).mono ?_); rintro e w4 ⟨b,rfl,hr,hss4,hb4⟩; have hS4:=z7J hb4 hS3; have HR:=zhi hr; have Hss4:=zhi hss4; have hb9:=hss4.res HW.out Hls.out; have kk0:=cell_of_row _ _ 0 _ _ _ hb9; have kk1:=cell_of_row _ _ 1 _ _ _ hb9; have kk2:=cell_of_row _ _ 2 _ _ _ hb9; have kk3:=cell_of_row _ _ 3 _ _ _ hb9; have kk4:=cell_of_row _ _ 4 _ _ _ hb9; have kk5:=cell_of_row _ _ 5 _ _ _ hb9; have kf0:=z06 hb9 0; have kf1:=z06 hb9 1; have kf2:=z06 hb9 2; have kf3:=z06 hb9 3; have kf4:=z06 hb9 4; have kf5:=z06 hb9 5; have HB9:=zhi hb9; clear hr hss4 hb4 hb9))
   all_goals
    have h6:=z1h (.int .i64 2) (.int .i64 0) (.string (sn q)) (.slice (some ⟨b,0,none⟩) 1 1) (.slice none 0 0) (.slice none 0 0) HB9.out
    generalize ((((((w4.setCell ⟨w.heap.size,0,none⟩ (.int .i64 2)).setCell ⟨w.heap.size,1,none⟩ (.int .i64 0)).setCell ⟨w.heap.size,2,none⟩ (.string (sn q))).setCell ⟨w.heap.size,3,none⟩ (.slice (some ⟨b,0,none⟩) 1 1)).setCell ⟨w.heap.size,4,none⟩ (.slice none 0 0)).setCell ⟨w.heap.size,5,none⟩ (.slice none 0 0))=w9 at *
    obtain ⟨k0,k1,k2,k3,k4,k5⟩:=cl6 h6.1
    have HH:Hid (z1d m g l E bud base d w _ w9):=zhi (z1u Hss4.out HW.out Hls.out HE.out Hb0.out Hln.out h6.2 HG.out (.inl ⟨rfl,HE.out.ls _ (Hsm.out q hq),.inl (Hsm.out q hq)⟩) HR.out)
    clear h6 kk0 kk1 kk2 kk3 kk4 kk5 kf0 kf1 kf2 kf3 kf4 kf5
    go_wp2_with fail
    refine bodyPost_ret ?_ rfl HH.out
    simp [results,Try.results45,go_sem,k0,k1,k2,k3,k4,k5]
  ·have hex:=zhi (z0M Hss.out HE.out)
   go_wp2_with fail
   refine hex.out.mono ?_
   rintro e w3 ⟨x,k,o,a,lf,s',A,n,c,rfl,hge,hx,hss,hc⟩
   have HG:=zhi hge
   have HX:=zhi hx
   replace Hss:=zhi hss
   clear hex hge hx hss hc
   have hon:=zhi (z1n Hss.out HX.out 7 ⟨#[]⟩)
   go_wp2_with fail
   refine hon.out.mono ?_
   rintro e w4 ⟨b,rfl,hr,hss,hc⟩
   have HR:=zhi hr
   replace Hss:=zhi hss
   clear hon hr hss hc HX
   have HB:=zhi (Hss.out.res HW.out Hls.out)
   go_wp2_with (with_reducible refine z01 ?_)
   refine z08.of (z00 _ rfl _ _ _ rfl w.heap.size _ rfl (by rfl) _ _ HB.out (by kernel_rfl) (by rfl) (by simp [Value.oneCell']) ?_)
   intro w9 hrow hg9
   obtain ⟨k0,k1,k2,k3,k4,k5⟩:=cl6 hrow
   have Hg9:=zhi hg9
   clear hrow hg9
   have HH:Hid (z1d m g l E bud base d w _ w9):=zhi (z1u (k:=7) (s:=⟨#[]⟩) Hss.out HW.out Hls.out HE.out Hb0.out Hln.out Hg9.out HG.out (.inr ⟨.inr (.inl rfl),rfl⟩) HR.out)
   go_wp2_with fail
   refine bodyPost_ret ?_ rfl HH.out
   simp [results,Try.results45,go_sem,k0,k1,k2,k3,k4,k5]
 ·have hpk:=zhi ((z6G Hss.out HE.out false))
  go_wp2_with fail
  refine hpk.out.mono ?_
  rintro e w2 ⟨s,ok,rfl,hok,hss,hc⟩
  have HS:=zhi hok
  replace Hss:=zhi hss
  clear hpk hok hss hc
  cases ok with
  | true =>
   replace HS:=zhi (HS.out rfl)
   have hex:=zhi (z0M Hss.out HE.out)
   go_wp2_with fail
   refine hex.out.mono ?_
   rintro e w3 ⟨x,k,o,a,lf,s',A,n,c,rfl,hge,hx,hss,hc⟩
   have HG:=zhi hge
   have HX:=zhi hx
   replace Hss:=zhi hss
   clear hex hge hx hss hc
   have hon:=zhi (z1n Hss.out HX.out 2 s)
   go_wp2_with fail
   refine hon.out.mono ?_
   rintro e w4 ⟨b,rfl,hr,hss,hc⟩
   have HR:=zhi hr
   replace Hss:=zhi hss
   clear hon hr hss hc HX
   have HB:=zhi (Hss.out.res HW.out Hls.out)
   go_wp2_with (with_reducible refine z01 ?_)
   refine z08.of (z00 _ rfl _ _ _ rfl w.heap.size _ rfl (by rfl) _ _ HB.out (by kernel_rfl) (by rfl) (by simp [Value.oneCell']) ?_)
   intro w9 hrow hg9
   obtain ⟨k0,k1,k2,k3,k4,k5⟩:=cl6 hrow
   have Hg9:=zhi hg9
   clear hrow hg9
   have HH:Hid (z1d m g l E bud base d w _ w9):=zhi (z1u (k:=2) (s:=s) Hss.out HW.out Hls.out HE.out Hb0.out Hln.out Hg9.out HG.out (.inl ⟨rfl,HS.out.1,.inr HS.out.2⟩) HR.out)
   go_wp2_with fail
   refine bodyPost_ret ?_ rfl HH.out
   simp [results,Try.results45,go_sem,k0,k1,k2,k3,k4,k5]
  | false =>
        have hex:=zhi (z0M Hss.out HE.out)
        go_wp2_with fail
        refine hex.out.mono ?_
        rintro e w3 ⟨x,k,o,a,lf,s',A,n,c,rfl,hge,hx,hss,hc⟩
        have HG:=zhi hge
        have HX:=zhi hx
        replace Hss:=zhi hss
        clear hex hge hx hss hc
        have hon:=zhi (z1n Hss.out HX.out 7 ⟨#[]⟩)
        go_wp2_with fail
        refine hon.out.mono ?_
        rintro e w4 ⟨b,rfl,hr,hss,hc⟩
        have HR:=zhi hr
        replace Hss:=zhi hss
        clear hon hr hss hc HX
        have HB:=zhi (Hss.out.res HW.out Hls.out)
        go_wp2_with (with_reducible refine z01 ?_)
        refine z08.of (z00 _ rfl _ _ _ rfl w.heap.size _ rfl (by rfl) _ _ HB.out (by kernel_rfl) (by rfl) (by simp [Value.oneCell']) ?_)
        intro w9 hrow hg9
        obtain ⟨k0,k1,k2,k3,k4,k5⟩:=cl6 hrow
        have Hg9:=zhi hg9
        clear hrow hg9
        have HH:Hid (z1d m g l E bud base d w _ w9):=zhi (z1u (k:=7) (s:=⟨#[]⟩) Hss.out HW.out Hls.out HE.out Hb0.out Hln.out Hg9.out HG.out (.inr ⟨.inr (.inl rfl),rfl⟩) HR.out)
        go_wp2_with fail
        refine bodyPost_ret ?_ rfl HH.out
        simp [results,Try.results45,go_sem,k0,k1,k2,k3,k4,k5]
 ·have hpk:=zhi ((z6G Hss.out HE.out true))
  go_wp2_with fail
  refine hpk.out.mono ?_
  rintro e w2 ⟨s,ok,rfl,hok,hss,hc⟩
  have HS:=zhi hok
  replace Hss:=zhi hss
  clear hpk hok hss hc
  cases ok with
  | true =>
   replace HS:=zhi (HS.out rfl)
   have hex:=zhi (zbj Hss.out HE.out)
   go_wp2_with fail
   refine hex.out.mono ?_
   rintro e w3 ⟨x,k,o,a,lf,s',A,n,c,rfl,hge,hx,hss,hc⟩
   have HG:=zhi hge
   have HX:=zhi hx
   replace Hss:=zhi hss
   clear hex hge hx hss hc
   have HG1:=HG
   have HX1:=HX
   have hex:=zhi (z0M Hss.out HE.out)
   clear HG HX
   go_wp2_with fail
   refine hex.out.mono ?_
   rintro e w4 ⟨x2,k2,o2,a2,lf2,s2,A2,n2,c2,rfl,hge,hx,hss,hc⟩
   have HG:=zhi hge
   have HX:=zhi hx
   replace HX1:=zhi (Hss.out.tree hc HX1.out)
   replace Hss:=zhi hss
   clear hex hge hx hss hc
   have hb5:=(Below.refl _ w4).alloc (Nat.le_refl _) (.cells #[.int .i64 k,.int .i64 o,.int .i64 a,.int .i64 lf,.string s',.slice A n c,.int .i64 k2,.int .i64 o2,.int .i64 a2,.int .i64 lf2,.string s2,.slice A2 n2 c2] 112)
   have hal:=heap_alloc_new w4 (.cells #[.int .i64 k,.int .i64 o,.int .i64 a,.int .i64 lf,.string s',.slice A n c,.int .i64 k2,.int .i64 o2,.int .i64 a2,.int .i64 lf2,.string s2,.slice A2 n2 c2] 112)
   have h5:=Hss.out.below hb5
   have hmw:=Nat.lt_of_lt_of_le Hss.out.mW Hss.out.chg.size
   have hrow2:=z2h (Hss.out.tree h5.2 HX1.out) (Hss.out.tree h5.2 HX.out) (Hss.out.fresh (World.cell?_of_block (hb5.block m hmw)).symm (Nat.le_refl _) (by simp)) hal
   have HR:=zhi hrow2
   replace Hss:=zhi h5.1
   clear hb5 hal h5 hmw hrow2 HX HX1
   have HB:=zhi (Hss.out.res HW.out Hls.out)
   go_wp2_with (with_reducible refine z01 ?_)
   refine z08.of (z00 _ rfl _ _ _ rfl w.heap.size _ rfl (by rfl) _ _ HB.out (by kernel_rfl) (by rfl) (by simp [Value.oneCell']) ?_)
   intro w9 hrow hg9
   obtain ⟨k0,k1,k2,k3,k4,k5⟩:=cl6 hrow
   have Hg9:=zhi hg9
   clear hrow hg9
   have HH:Hid (z1d m g l E bud base d w _ w9):=zhi (z2m (x:=.mk 3 0 s [x,x2] [] []) Hss.out HW.out Hls.out (Env.Like.refl HE.out) Hb0.out (Int.le_refl _) (by have:=Hln.out; omega) Hg9.out (zaK HG1.out HG.out HS.out) z4S ⟨_,_,none,0,none,0,rfl,HR.out,z0U,z0U⟩)
   go_wp2_with fail
   refine bodyPost_ret ?_ rfl HH.out
   simp [results,Try.results45,go_sem,k0,k1,k2,k3,k4,k5]
  | false =>
        have hex:=zhi (z0M Hss.out HE.out)
        go_wp2_with fail
        refine hex.out.mono ?_
        rintro e w3 ⟨x,k,o,a,lf,s',A,n,c,rfl,hge,hx,hss,hc⟩
        have HG:=zhi hge
        have HX:=zhi hx
        replace Hss:=zhi hss
        clear hex hge hx hss hc
        have hon:=zhi (z1n Hss.out HX.out 7 ⟨#[]⟩)
        go_wp2_with fail
        refine hon.out.mono ?_
        rintro e w4 ⟨b,rfl,hr,hss,hc⟩
        have HR:=zhi hr
        replace Hss:=zhi hss
        clear hon hr hss hc HX
        have HB:=zhi (Hss.out.res HW.out Hls.out)
        go_wp2_with (with_reducible refine z01 ?_)
        refine z08.of (z00 _ rfl _ _ _ rfl w.heap.size _ rfl (by rfl) _ _ HB.out (by kernel_rfl) (by rfl) (by simp [Value.oneCell']) ?_)
        intro w9 hrow hg9
        obtain ⟨k0,k1,k2,k3,k4,k5⟩:=cl6 hrow
        have Hg9:=zhi hg9
        clear hrow hg9
        have HH:Hid (z1d m g l E bud base d w _ w9):=zhi (z1u (k:=7) (s:=⟨#[]⟩) Hss.out HW.out Hls.out HE.out Hb0.out Hln.out Hg9.out HG.out (.inr ⟨.inr (.inl rfl),rfl⟩) HR.out)
        go_wp2_with fail
        refine bodyPost_ret ?_ rfl HH.out
        simp [results,Try.results45,go_sem,k0,k1,k2,k3,k4,k5]
 ·by_cases hzp:0<z
  ·obtain ⟨d',hd'⟩:∃ d',d=d'+1:=⟨d - 1,by have:=Hz.out; omega⟩
   subst hd'
   replace HBc:=zhi (HBc.out d' rfl)
   have hex:=zhi (z0M Hss.out HE.out)
   go_wp2_with fail
   refine hex.out.mono ?_
   rintro e w3 ⟨x,k,o,a,lf,s',A,n,c,rfl,hge,hx,hss,hc⟩
   have HG:=zhi hge
   have HX:=zhi hx
   replace Hss:=zhi hss
   clear hex hge hx hss hc
   have hon:=zhi (z1n Hss.out HX.out 4 ⟨#[]⟩)
   go_wp2_with fail
   refine hon.out.mono ?_
   rintro e w4 ⟨b,rfl,hr,hss,hc⟩
   have HR:=zhi hr
   replace Hss:=zhi hss
   clear hon hr hss hc HX
   go_wp2_with (with_reducible refine z01 ?_)
   refine z08.of (z00 _ rfl _ _ _ rfl w4.heap.size _ rfl (by rfl) _ _ (heap_alloc_new w4 _) (by kernel_rfl) (by rfl) (by simp [Value.oneCell']) ?_)
   intro w5 hrow5 hg5
   obtain ⟨hif,hc5,hmd⟩:=IfSt.make Hss.out hg5 hrow5
   have HI:=zhi hif
   have HRM:=zhi (HR.out.keep (fun b hb=>(hmd b hb).1) (fun b hb=>(hmd b hb).2))
   have HT:Hid (RowS (Mad m W w4.heap.size w5) w5 3 0 [] none 0):=zhi z0U
   clear hg5 hrow5 hif hc5 hmd HR
   have hnx:=zhi (z17 HI.out.ss 2 2 rfl (by omega))
   go_wp2_with fail
   refine hnx.out.mono ?_
   rintro e w6 ⟨r6,rfl,hr0,hss,hc,_⟩
   have hrb:=hr0 (by omega)
   replace HRM:=zhi (HRM.out.keep (fun b hb=>(z0e HI.out.ss hc b hb).1) (fun b hb=>(z0e HI.out.ss hc b hb).2))
   replace HT:=zhi (HT.out.keep (fun b hb=>(z0e HI.out.ss hc b hb).1) (fun b hb=>(z0e HI.out.ss hc b hb).2))
   replace HI:=zhi (HI.out.step hss hc)
   clear hnx hr0 hss hc
   have hbl:=zhi (z2i HBc.out HI.out.ss HE.out (z - 1) (1+(r6:Int)) (1+r6) (by have:=Hz.out; omega) (by omega) (by omega) Hb0.out (by have:=Hln.out; omega))
   go_wp2_with fail
   refine hbl.out.mono ?_
   rintro e w7 ⟨E1,b1,ts,A1,c1,rfl,hlk,hss,hb1,hb2,hl1,hc,hgs,hcn,hrw,_⟩
   have hq:=HI.out.lt
   have hqW:=HI.out.qW
   replace HRM:=zhi (HRM.out.keep (fun b hb=>(z0e HI.out.ss hc b hb).1) (fun b hb=>(z0e HI.out.ss hc b hb).2))
   replace HT:=zhi (hrw.keep (G:=Mad m W w4.heap.size w7) (fun b hb=>⟨⟨by have:=hb.1; omega,hb.2.1,hb.2.2⟩,by have:=hb.1; omega⟩) (fun _ _=>rfl))
   replace HI:=zhi (HI.out.step hss hc)
   have HLk:=zhi hlk
   have HB1:=zhi hb1
   have HB2:=zhi hb2
   have HL1:=zhi hl1
   have HGs:=zhi hgs
   have HCn:=zhi hcn
   clear hbl hlk hss hb1 hb2 hl1 hc hgs hcn hrw hq hqW hrb
   have e4:=cell_of_row _ _ 4 _ _ _ HI.out.row
   have f4:=z06 HI.out.row 4
   go_upto_region 26 with fail
   replace HRM:=zhi (HRM.out.keep (fun b hb=>(z0s HI.out 4 (.slice A1 ts.length c1) b hb).1) (fun b hb=>(z0s HI.out 4 (.slice A1 ts.length c1) b hb).2))
   replace HT:=zhi (HT.out.keep (fun b hb=>(z0s HI.out 4 (.slice A1 ts.length c1) b hb).1) (fun b hb=>(z0s HI.out 4 (.slice A1 ts.length c1) b hb).2))
   have hI8:IfSt W m g l E1 b1 base w4.heap.size #[.int .i64 4,.int .i64 0,.string { data:=#[] },.slice (some ⟨b,0,none⟩) 1 1,.slice A1 ts.length c1,.slice none 0 0] _:=HI.out.set 4 (.slice A1 ts.length c1)
   replace HI:=zhi hI8
   clear e4 f4 hI8
   generalize w7.setCell ⟨w4.heap.size,4,none⟩ (.slice A1 ts.length c1)=w8 at *
   have hnx:=zhi (z17 HI.out.ss 2 2 rfl (by omega))
   go_wp2_with fail
   refine hnx.out.mono ?_
   rintro e wa ⟨ra,rfl,hr0,hss,hc,_⟩
   have hrb:=hr0 (by omega)
   replace HRM:=zhi (HRM.out.keep (fun b hb=>(z0e HI.out.ss hc b hb).1) (fun b hb=>(z0e HI.out.ss hc b hb).2))
   replace HT:=zhi (HT.out.keep (fun b hb=>(z0e HI.out.ss hc b hb).1) (fun b hb=>(z0e HI.out.ss hc b hb).2))
   replace HI:=zhi (HI.out.step hss hc)
   clear hnx hr0 hss hc
   by_cases hra:ra=1
   ·subst hra
    have HT1:=HT
    replace HT:Hid (RowS (Mad m W w4.heap.size wa) wa 3 0 [] none 0):=zhi z0U
    have hnx:=zhi (z17 HI.out.ss 2 2 rfl (by omega))
    go_wp2_with fail
    refine hnx.out.mono ?_
    rintro e wb ⟨rb,rfl,hr0,hss,hc,_⟩
    have hrb:=hr0 (by omega)
    replace HRM:=zhi (HRM.out.keep (fun b hb=>(z0e HI.out.ss hc b hb).1) (fun b hb=>(z0e HI.out.ss hc b hb).2))
    replace HT1:=zhi (HT1.out.keep (fun b hb=>(z0e HI.out.ss hc b hb).1) (fun b hb=>(z0e HI.out.ss hc b hb).2))
    replace HI:=zhi (HI.out.step hss hc)
    clear hnx hr0 hss hc HT
    have hbl:=zhi (z2i HBc.out HI.out.ss HLk.out.ok (z - 1) (1+(rb:Int)) (1+rb) (by have:=Hz.out; omega) (by omega) (by omega) HB1.out HL1.out)
    go_wp2_with fail
    refine hbl.out.mono ?_
    rintro e wc ⟨E2,b2,us,A2,c2,rfl,hlk,hss,hb1,hb2,hl1,hc,hgs,hcn,hrw,_⟩
    have hq:=HI.out.lt
    have hqW:=HI.out.qW
    replace HRM:=zhi (HRM.out.keep (fun b hb=>(z0e HI.out.ss hc b hb).1) (fun b hb=>(z0e HI.out.ss hc b hb).2))
    replace HT1:=zhi (HT1.out.keep (fun b hb=>(z0e HI.out.ss hc b hb).1) (fun b hb=>(z0e HI.out.ss hc b hb).2))
    have HT:=zhi (hrw.keep (G:=Mad m W w4.heap.size wc) (fun b hb=>⟨⟨by have:=hb.1; omega,hb.2.1,hb.2.2⟩,by have:=hb.1; omega⟩) (fun _ _=>rfl))
    replace HI:=zhi (HI.out.step hss hc)
    have HLk2:=zhi hlk
    have HB12:=zhi hb1
    have HB22:=zhi hb2
    have HL12:=zhi hl1
    have HGs2:=zhi hgs
    have HCn2:=zhi hcn
    clear hbl hlk hss hb1 hb2 hl1 hc hgs hcn hrw hq hqW hrb
    have e5:=cell_of_row _ _ 5 _ _ _ HI.out.row
    have f5:=z06 HI.out.row 5
    go_upto_region 28 with fail
    have HRW:=zhi (HRM.out.keep (fun b hb=>(z0s HI.out 5 (.slice A2 us.length c2) b hb).1.1) (fun b hb=>(z0s HI.out 5 (.slice A2 us.length c2) b hb).2))
    have HTW1:=zhi (HT1.out.keep (fun b hb=>(z0s HI.out 5 (.slice A2 us.length c2) b hb).1.1) (fun b hb=>(z0s HI.out 5 (.slice A2 us.length c2) b hb).2))
    have HTW:=zhi (HT.out.keep (fun b hb=>(z0s HI.out 5 (.slice A2 us.length c2) b hb).1.1) (fun b hb=>(z0s HI.out 5 (.slice A2 us.length c2) b hb).2))
    have hI8:IfSt W m g l E2 b2 base w4.heap.size #[.int .i64 4,.int .i64 0,.string { data:=#[] },.slice (some ⟨b,0,none⟩) 1 1,.slice A1 ts.length c1,.slice A2 us.length c2] _:=HI.out.set 5 (.slice A2 us.length c2)
    replace HI:=zhi hI8
    clear e5 f5 hI8 HRM HT1 HT
    generalize wc.setCell ⟨w4.heap.size,5,none⟩ (.slice A2 us.length c2)=wd at *
    obtain ⟨e0,e1,e2,e3,e4,e5⟩:=cl6 HI.out.row
    have Hss:=zhi HI.out.ss
    clear HI
    have HB:=zhi (Hss.out.res HW.out Hls.out)
    go_wp2_with (with_reducible refine z01 ?_)
    refine z08.of (z00 _ rfl _ _ _ rfl w.heap.size _ rfl (by rfl) _ _ HB.out (by kernel_rfl) (by rfl) (by simp [Value.oneCell']) ?_)
    intro w9 hrow hg9
    obtain ⟨k0,k1,k2,k3,k4,k5⟩:=cl6 hrow
    have Hg9:=zhi hg9
    clear hrow hg9
    have HH:Hid (z1d m g l E bud base (d'+1) w _ w9):=zhi (z2m (x:=.mk 4 0 ⟨#[]⟩ [x] ts us) Hss.out HW.out Hls.out (HLk.out.trans HLk2.out) HB12.out (Int.le_trans HB22.out HB2.out) HL12.out Hg9.out (z6W HLk.out HG.out HGs.out HGs2.out) (by have:=HCn.out; have:=HCn2.out; have:=(z5x 4 [x]).2; simp only [cntS]; omega) ⟨_,_,_,_,_,_,rfl,HRW.out,HTW1.out,HTW.out⟩)
    go_wp2_with fail
    refine bodyPost_ret ?_ rfl HH.out
    simp [results,Try.results45,go_sem,k0,k1,k2,k3,k4,k5]
   ·have hra:((ra:Int) == 1)=false:=by simp; omega
    obtain ⟨e0,e1,e2,e3,e4,e5⟩:=cl6 HI.out.row
    have Hss:=zhi HI.out.ss
    have HRW:Hid (RowE (Made m W wa) wa 3 [x] (some ⟨b,0,none⟩) 1):=zhi (HRM.out.keep (fun b hb=>hb.1) (fun _ _=>rfl))
    have HTW:=zhi (HT.out.keep (G:=Made m W wa) (fun b hb=>hb.1) (fun _ _=>rfl))
    clear HRM HT HI
    have HB:=zhi (Hss.out.res HW.out Hls.out)
    go_wp2_with (with_reducible refine z01 ?_)
    refine z08.of (z00 _ rfl _ _ _ rfl w.heap.size _ rfl (by rfl) _ _ HB.out (by kernel_rfl) (by rfl) (by simp [Value.oneCell']) ?_)
    intro w9 hrow hg9
    obtain ⟨k0,k1,k2,k3,k4,k5⟩:=cl6 hrow
    have Hg9:=zhi hg9
    clear hrow hg9
    have HH:Hid (z1d m g l E bud base (d'+1) w _ w9):=zhi (z2m (x:=.mk 4 0 ⟨#[]⟩ [x] ts []) Hss.out HW.out Hls.out HLk.out HB1.out HB2.out HL1.out Hg9.out (z6W HLk.out HG.out HGs.out (z6i _ _)) (by have:=HCn.out; have:=(z5x 4 [x]).2; simp only [cntS,List.map_nil,List.sum_nil]; omega) ⟨_,_,_,_,_,_,rfl,HRW.out,HTW.out,z0U⟩)
    go_wp2_with fail
    refine bodyPost_ret ?_ rfl HH.out
    simp [results,Try.results45,go_sem,k0,k1,k2,k3,k4,k5]
  ·have hex:=zhi (z0M Hss.out HE.out)
   go_wp2_with fail
   refine hex.out.mono ?_
   rintro e w3 ⟨x,k,o,a,lf,s',A,n,c,rfl,hge,hx,hss,hc⟩
   have HG:=zhi hge
   have HX:=zhi hx
   replace Hss:=zhi hss
   clear hex hge hx hss hc
   have hon:=zhi (z1n Hss.out HX.out 7 ⟨#[]⟩)
   go_wp2_with fail
   refine hon.out.mono ?_
   rintro e w4 ⟨b,rfl,hr,hss,hc⟩
   have HR:=zhi hr
   replace Hss:=zhi hss
   clear hon hr hss hc HX
   have HB:=zhi (Hss.out.res HW.out Hls.out)
   go_wp2_with (with_reducible refine z01 ?_)
   refine z08.of (z00 _ rfl _ _ _ rfl w.heap.size _ rfl (by rfl) _ _ HB.out (by kernel_rfl) (by rfl) (by simp [Value.oneCell']) ?_)
   intro w9 hrow hg9
   obtain ⟨k0,k1,k2,k3,k4,k5⟩:=cl6 hrow
   have Hg9:=zhi hg9
   clear hrow hg9
   have HH:Hid (z1d m g l E bud base d w _ w9):=zhi (z1u (k:=7) (s:=⟨#[]⟩) Hss.out HW.out Hls.out HE.out Hb0.out Hln.out Hg9.out HG.out (.inr ⟨.inr (.inl rfl),rfl⟩) HR.out)
   go_wp2_with fail
   refine bodyPost_ret ?_ rfl HH.out
   simp [results,Try.results45,go_sem,k0,k1,k2,k3,k4,k5]
 ·by_cases hzp:0<z
  ·obtain ⟨d',hd'⟩:∃ d',d=d'+1:=⟨d - 1,by have:=Hz.out; omega⟩
   subst hd'
   replace HBc:=zhi (HBc.out d' rfl)
   have hex:=zhi (z0M Hss.out HE.out)
   go_wp2_with fail
   refine hex.out.mono ?_
   rintro e w3 ⟨x,k,o,a,lf,s',A,n,c,rfl,hge,hx,hss,hc⟩
   have HG:=zhi hge
   have HX:=zhi hx
   replace Hss:=zhi hss
   clear hex hge hx hss hc
   have hon:=zhi (z1n Hss.out HX.out 4 ⟨#[]⟩)
   go_wp2_with fail
   refine hon.out.mono ?_
   rintro e w4 ⟨b,rfl,hr,hss,hc⟩
   have HR:=zhi hr
   replace Hss:=zhi hss
   clear hon hr hss hc HX
   go_wp2_with (with_reducible refine z01 ?_)
   refine z08.of (z00 _ rfl _ _ _ rfl w4.heap.size _ rfl (by rfl) _ _ (heap_alloc_new w4 _) (by kernel_rfl) (by rfl) (by simp [Value.oneCell']) ?_)
   intro w5 hrow5 hg5
   obtain ⟨hif,hc5,hmd⟩:=IfSt.make Hss.out hg5 hrow5
   have HI:=zhi hif
   have HRM:=zhi (HR.out.keep (fun b hb=>(hmd b hb).1) (fun b hb=>(hmd b hb).2))
   have HT:Hid (RowS (Mad m W w4.heap.size w5) w5 3 0 [] none 0):=zhi z0U
   clear hg5 hrow5 hif hc5 hmd HR
   have hnx:=zhi (z17 HI.out.ss 2 2 rfl (by omega))
   go_wp2_with fail
   refine hnx.out.mono ?_
   rintro e w6 ⟨r6,rfl,hr0,hss,hc,_⟩
   have hrb:=hr0 (by omega)
   replace HRM:=zhi (HRM.out.keep (fun b hb=>(z0e HI.out.ss hc b hb).1) (fun b hb=>(z0e HI.out.ss hc b hb).2))
   replace HT:=zhi (HT.out.keep (fun b hb=>(z0e HI.out.ss hc b hb).1) (fun b hb=>(z0e HI.out.ss hc b hb).2))
   replace HI:=zhi (HI.out.step hss hc)
   clear hnx hr0 hss hc
   have hbl:=zhi (z2i HBc.out HI.out.ss HE.out (z - 1) (1+(r6:Int)) (1+r6) (by have:=Hz.out; omega) (by omega) (by omega) Hb0.out (by have:=Hln.out; omega))
   go_wp2_with fail
   refine hbl.out.mono ?_
   rintro e w7 ⟨E1,b1,ts,A1,c1,rfl,hlk,hss,hb1,hb2,hl1,hc,hgs,hcn,hrw,_⟩
   have hq:=HI.out.lt
   have hqW:=HI.out.qW
   replace HRM:=zhi (HRM.out.keep (fun b hb=>(z0e HI.out.ss hc b hb).1) (fun b hb=>(z0e HI.out.ss hc b hb).2))
   replace HT:=zhi (hrw.keep (G:=Mad m W w4.heap.size w7) (fun b hb=>⟨⟨by have:=hb.1; omega,hb.2.1,hb.2.2⟩,by have:=hb.1; omega⟩) (fun _ _=>rfl))
   replace HI:=zhi (HI.out.step hss hc)
   have HLk:=zhi hlk
   have HB1:=zhi hb1
   have HB2:=zhi hb2
   have HL1:=zhi hl1
   have HGs:=zhi hgs
   have HCn:=zhi hcn
   clear hbl hlk hss hb1 hb2 hl1 hc hgs hcn hrw hq hqW hrb
   have e4:=cell_of_row _ _ 4 _ _ _ HI.out.row
   have f4:=z06 HI.out.row 4
   go_upto_region 26 with fail
   replace HRM:=zhi (HRM.out.keep (fun b hb=>(z0s HI.out 4 (.slice A1 ts.length c1) b hb).1) (fun b hb=>(z0s HI.out 4 (.slice A1 ts.length c1) b hb).2))
   replace HT:=zhi (HT.out.keep (fun b hb=>(z0s HI.out 4 (.slice A1 ts.length c1) b hb).1) (fun b hb=>(z0s HI.out 4 (.slice A1 ts.length c1) b hb).2))
   have hI8:IfSt W m g l E1 b1 base w4.heap.size #[.int .i64 4,.int .i64 0,.string { data:=#[] },.slice (some ⟨b,0,none⟩) 1 1,.slice A1 ts.length c1,.slice none 0 0] _:=HI.out.set 4 (.slice A1 ts.length c1)
   replace HI:=zhi hI8
   clear e4 f4 hI8
   generalize w7.setCell ⟨w4.heap.size,4,none⟩ (.slice A1 ts.length c1)=w8 at *
   have hnx:=zhi (z17 HI.out.ss 2 2 rfl (by omega))
   go_wp2_with fail
   refine hnx.out.mono ?_
   rintro e wa ⟨ra,rfl,hr0,hss,hc,_⟩
   have hrb:=hr0 (by omega)
   replace HRM:=zhi (HRM.out.keep (fun b hb=>(z0e HI.out.ss hc b hb).1) (fun b hb=>(z0e HI.out.ss hc b hb).2))
   replace HT:=zhi (HT.out.keep (fun b hb=>(z0e HI.out.ss hc b hb).1) (fun b hb=>(z0e HI.out.ss hc b hb).2))
   replace HI:=zhi (HI.out.step hss hc)
   clear hnx hr0 hss hc
   by_cases hra:ra=1
   ·subst hra
    have HT1:=HT
    replace HT:Hid (RowS (Mad m W w4.heap.size wa) wa 3 0 [] none 0):=zhi z0U
    have hnx:=zhi (z17 HI.out.ss 2 2 rfl (by omega))
    go_wp2_with fail
    refine hnx.out.mono ?_
    rintro e wb ⟨rb,rfl,hr0,hss,hc,_⟩
    have hrb:=hr0 (by omega)
    replace HRM:=zhi (HRM.out.keep (fun b hb=>(z0e HI.out.ss hc b hb).1) (fun b hb=>(z0e HI.out.ss hc b hb).2))
    replace HT1:=zhi (HT1.out.keep (fun b hb=>(z0e HI.out.ss hc b hb).1) (fun b hb=>(z0e HI.out.ss hc b hb).2))
    replace HI:=zhi (HI.out.step hss hc)
    clear hnx hr0 hss hc HT
    have hbl:=zhi (z2i HBc.out HI.out.ss HLk.out.ok (z - 1) (1+(rb:Int)) (1+rb) (by have:=Hz.out; omega) (by omega) (by omega) HB1.out HL1.out)
    go_wp2_with fail
    refine hbl.out.mono ?_
    rintro e wc ⟨E2,b2,us,A2,c2,rfl,hlk,hss,hb1,hb2,hl1,hc,hgs,hcn,hrw,_⟩
    have hq:=HI.out.lt
    have hqW:=HI.out.qW
    replace HRM:=zhi (HRM.out.keep (fun b hb=>(z0e HI.out.ss hc b hb).1) (fun b hb=>(z0e HI.out.ss hc b hb).2))
    replace HT1:=zhi (HT1.out.keep (fun b hb=>(z0e HI.out.ss hc b hb).1) (fun b hb=>(z0e HI.out.ss hc b hb).2))
    have HT:=zhi (hrw.keep (G:=Mad m W w4.heap.size wc) (fun b hb=>⟨⟨by have:=hb.1; omega,hb.2.1,hb.2.2⟩,by have:=hb.1; omega⟩) (fun _ _=>rfl))
    replace HI:=zhi (HI.out.step hss hc)
    have HLk2:=zhi hlk
    have HB12:=zhi hb1
    have HB22:=zhi hb2
    have HL12:=zhi hl1
    have HGs2:=zhi hgs
    have HCn2:=zhi hcn
    clear hbl hlk hss hb1 hb2 hl1 hc hgs hcn hrw hq hqW hrb
    have e5:=cell_of_row _ _ 5 _ _ _ HI.out.row
    have f5:=z06 HI.out.row 5
    go_upto_region 28 with fail
    have HRW:=zhi (HRM.out.keep (fun b hb=>(z0s HI.out 5 (.slice A2 us.length c2) b hb).1.1) (fun b hb=>(z0s HI.out 5 (.slice A2 us.length c2) b hb).2))
    have HTW1:=zhi (HT1.out.keep (fun b hb=>(z0s HI.out 5 (.slice A2 us.length c2) b hb).1.1) (fun b hb=>(z0s HI.out 5 (.slice A2 us.length c2) b hb).2))
    have HTW:=zhi (HT.out.keep (fun b hb=>(z0s HI.out 5 (.slice A2 us.length c2) b hb).1.1) (fun b hb=>(z0s HI.out 5 (.slice A2 us.length c2) b hb).2))
    have hI8:IfSt W m g l E2 b2 base w4.heap.size #[.int .i64 4,.int .i64 0,.string { data:=#[] },.slice (some ⟨b,0,none⟩) 1 1,.slice A1 ts.length c1,.slice A2 us.length c2] _:=HI.out.set 5 (.slice A2 us.length c2)
    replace HI:=zhi hI8
    clear e5 f5 hI8 HRM HT1 HT
    generalize wc.setCell ⟨w4.heap.size,5,none⟩ (.slice A2 us.length c2)=wd at *
    obtain ⟨e0,e1,e2,e3,e4,e5⟩:=cl6 HI.out.row
    have Hss:=zhi HI.out.ss
    clear HI
    have HB:=zhi (Hss.out.res HW.out Hls.out)
    go_wp2_with (with_reducible refine z01 ?_)
    refine z08.of (z00 _ rfl _ _ _ rfl w.heap.size _ rfl (by rfl) _ _ HB.out (by kernel_rfl) (by rfl) (by simp [Value.oneCell']) ?_)
    intro w9 hrow hg9
    obtain ⟨k0,k1,k2,k3,k4,k5⟩:=cl6 hrow
    have Hg9:=zhi hg9
    clear hrow hg9
    have HH:Hid (z1d m g l E bud base (d'+1) w _ w9):=zhi (z2m (x:=.mk 4 0 ⟨#[]⟩ [x] ts us) Hss.out HW.out Hls.out (HLk.out.trans HLk2.out) HB12.out (Int.le_trans HB22.out HB2.out) HL12.out Hg9.out (z6W HLk.out HG.out HGs.out HGs2.out) (by have:=HCn.out; have:=HCn2.out; have:=(z5x 4 [x]).2; simp only [cntS]; omega) ⟨_,_,_,_,_,_,rfl,HRW.out,HTW1.out,HTW.out⟩)
    go_wp2_with fail
    refine bodyPost_ret ?_ rfl HH.out
    simp [results,Try.results45,go_sem,k0,k1,k2,k3,k4,k5]
   ·have hra:((ra:Int) == 1)=false:=by simp; omega
    obtain ⟨e0,e1,e2,e3,e4,e5⟩:=cl6 HI.out.row
    have Hss:=zhi HI.out.ss
    have HRW:Hid (RowE (Made m W wa) wa 3 [x] (some ⟨b,0,none⟩) 1):=zhi (HRM.out.keep (fun b hb=>hb.1) (fun _ _=>rfl))
    have HTW:=zhi (HT.out.keep (G:=Made m W wa) (fun b hb=>hb.1) (fun _ _=>rfl))
    clear HRM HT HI
    have HB:=zhi (Hss.out.res HW.out Hls.out)
    go_wp2_with (with_reducible refine z01 ?_)
    refine z08.of (z00 _ rfl _ _ _ rfl w.heap.size _ rfl (by rfl) _ _ HB.out (by kernel_rfl) (by rfl) (by simp [Value.oneCell']) ?_)
    intro w9 hrow hg9
    obtain ⟨k0,k1,k2,k3,k4,k5⟩:=cl6 hrow
    have Hg9:=zhi hg9
    clear hrow hg9
    have HH:Hid (z1d m g l E bud base (d'+1) w _ w9):=zhi (z2m (x:=.mk 4 0 ⟨#[]⟩ [x] ts []) Hss.out HW.out Hls.out HLk.out HB1.out HB2.out HL1.out Hg9.out (z6W HLk.out HG.out HGs.out (z6i _ _)) (by have:=HCn.out; have:=(z5x 4 [x]).2; simp only [cntS,List.map_nil,List.sum_nil]; omega) ⟨_,_,_,_,_,_,rfl,HRW.out,HTW.out,z0U⟩)
    go_wp2_with fail
    refine bodyPost_ret ?_ rfl HH.out
    simp [results,Try.results45,go_sem,k0,k1,k2,k3,k4,k5]
  ·have hex:=zhi (z0M Hss.out HE.out)
   go_wp2_with fail
   refine hex.out.mono ?_
   rintro e w3 ⟨x,k,o,a,lf,s',A,n,c,rfl,hge,hx,hss,hc⟩
   have HG:=zhi hge
   have HX:=zhi hx
   replace Hss:=zhi hss
   clear hex hge hx hss hc
   have hon:=zhi (z1n Hss.out HX.out 7 ⟨#[]⟩)
   go_wp2_with fail
   refine hon.out.mono ?_
   rintro e w4 ⟨b,rfl,hr,hss,hc⟩
   have HR:=zhi hr
   replace Hss:=zhi hss
   clear hon hr hss hc HX
   have HB:=zhi (Hss.out.res HW.out Hls.out)
   go_wp2_with (with_reducible refine z01 ?_)
   refine z08.of (z00 _ rfl _ _ _ rfl w.heap.size _ rfl (by rfl) _ _ HB.out (by kernel_rfl) (by rfl) (by simp [Value.oneCell']) ?_)
   intro w9 hrow hg9
   obtain ⟨k0,k1,k2,k3,k4,k5⟩:=cl6 hrow
   have Hg9:=zhi hg9
   clear hrow hg9
   have HH:Hid (z1d m g l E bud base d w _ w9):=zhi (z1u (k:=7) (s:=⟨#[]⟩) Hss.out HW.out Hls.out HE.out Hb0.out Hln.out Hg9.out HG.out (.inr ⟨.inr (.inl rfl),rfl⟩) HR.out)
   go_wp2_with fail
   refine bodyPost_ret ?_ rfl HH.out
   simp [results,Try.results45,go_sem,k0,k1,k2,k3,k4,k5]
 ·by_cases hzp:0<z
  ·have hlp:=zhi (HLc.out (by have:=Hz.out; omega) E bud w1 z Hz.out HE.out Hss.out.ls Hb0.out Hln.out)
   go_wp2_with fail
   refine hlp.out.mono ?_
   rintro e w2 ⟨E1,b1,x,v,rfl,hlk,hls1,hb1,hb2,hl1,hc,hgs,hcn,hv⟩
   obtain ⟨kk,ll,s,eA,en,ec,tA,tn,tc,uA,un,uc,rfl⟩:=za2 hv
   have hsz:=Hss.out.chg.size
   have HV:=zhi (hv.keep (G:=Made m W w2) (fun b hb=>⟨by have:=hb.1; omega,hb.2.1,hb.2.2⟩) (fun _ _=>rfl))
   have HQ:Hid (E.Like E1∧0≤b1∧b1≤bud∧(E1.locals.length:Int)+b1≤1000∧GSc E E1 (d+1) x∧(cntS (d+1) x:Int)≤11+11 * (bud - b1)):=zhi ⟨hlk,hb1,hb2,hl1,hgs,hcn⟩
   have hss2:SS W m g l E1 b1 base w2:=⟨hls1,Hss.out.chg.trans hc,Hss.out.bw⟩
   replace Hss:=zhi hss2
   clear hlp hlk hls1 hb1 hb2 hl1 hc hgs hcn hv hsz hss2
   have HB:=zhi (Hss.out.res HW.out Hls.out)
   go_wp2_with (with_reducible refine z01 ?_)
   refine z08.of (z00 _ rfl _ _ _ rfl w.heap.size _ rfl (by rfl) _ _ HB.out (by kernel_rfl) (by rfl) (by simp [Value.oneCell']) ?_)
   intro w9 hrow hg9
   obtain ⟨k0,k1,k2,k3,k4,k5⟩:=cl6 hrow
   have Hg9:=zhi hg9
   clear hrow hg9
   have HH:Hid (z1d m g l E bud base d w _ w9):=zhi (z2m Hss.out HW.out Hls.out HQ.out.1 HQ.out.2.1 HQ.out.2.2.1 HQ.out.2.2.2.1 Hg9.out HQ.out.2.2.2.2.1 HQ.out.2.2.2.2.2 HV.out)
   go_wp2_with fail
   refine bodyPost_ret ?_ rfl HH.out
   simp [results,Try.results45,go_sem,k0,k1,k2,k3,k4,k5]
  ·have hex:=zhi (z0M Hss.out HE.out)
   go_wp2_with fail
   refine hex.out.mono ?_
   rintro e w3 ⟨x,k,o,a,lf,s',A,n,c,rfl,hge,hx,hss,hc⟩
   have HG:=zhi hge
   have HX:=zhi hx
   replace Hss:=zhi hss
   clear hex hge hx hss hc
   have hon:=zhi (z1n Hss.out HX.out 7 ⟨#[]⟩)
   go_wp2_with fail
   refine hon.out.mono ?_
   rintro e w4 ⟨b,rfl,hr,hss,hc⟩
   have HR:=zhi hr
   replace Hss:=zhi hss
   clear hon hr hss hc HX
   have HB:=zhi (Hss.out.res HW.out Hls.out)
   go_wp2_with (with_reducible refine z01 ?_)
   refine z08.of (z00 _ rfl _ _ _ rfl w.heap.size _ rfl (by rfl) _ _ HB.out (by kernel_rfl) (by rfl) (by simp [Value.oneCell']) ?_)
   intro w9 hrow hg9
   obtain ⟨k0,k1,k2,k3,k4,k5⟩:=cl6 hrow
   have Hg9:=zhi hg9
   clear hrow hg9
   have HH:Hid (z1d m g l E bud base d w _ w9):=zhi (z1u (k:=7) (s:=⟨#[]⟩) Hss.out HW.out Hls.out HE.out Hb0.out Hln.out Hg9.out HG.out (.inr ⟨.inr (.inl rfl),rfl⟩) HR.out)
   go_wp2_with fail
   refine bodyPost_ret ?_ rfl HH.out
   simp [results,Try.results45,go_sem,k0,k1,k2,k3,k4,k5]
 ·have hnx:=zhi (z17 Hss.out 3 3 rfl (by omega))
  go_wp2_with fail
  refine hnx.out.mono ?_
  rintro e w2 ⟨r2,rfl,hr0,hss,hc,_⟩
  have hrb:=hr0 (by omega)
  replace Hss:=zhi hss
  clear hnx hr0 hss hc
  by_cases h0:r2=0
  ·subst h0
   have hex:=zhi (z0M Hss.out HE.out)
   go_wp2_with fail
   refine hex.out.mono ?_
   rintro e w3 ⟨x,k,o,a,lf,s',A,n,c,rfl,hge,hx,hss,hc⟩
   have HG:=zhi hge
   have HX:=zhi hx
   replace Hss:=zhi hss
   clear hex hge hx hss hc
   have hon:=zhi (z1n Hss.out HX.out 6 ⟨#[]⟩)
   go_wp2_with fail
   refine hon.out.mono ?_
   rintro e w4 ⟨b,rfl,hr,hss,hc⟩
   have HR:=zhi hr
   replace Hss:=zhi hss
   clear hon hr hss hc HX
   have HB:=zhi (Hss.out.res HW.out Hls.out)
   go_wp2_with (with_reducible refine z01 ?_)
   refine z08.of (z00 _ rfl _ _ _ rfl w.heap.size _ rfl (by rfl) _ _ HB.out (by kernel_rfl) (by rfl) (by simp [Value.oneCell']) ?_)
   intro w9 hrow hg9
   obtain ⟨k0,k1,k2,k3,k4,k5⟩:=cl6 hrow
   have Hg9:=zhi hg9
   clear hrow hg9
   have HH:Hid (z1d m g l E bud base d w _ w9):=zhi (z1u (k:=6) (s:=⟨#[]⟩) Hss.out HW.out Hls.out HE.out Hb0.out Hln.out Hg9.out HG.out (.inr ⟨.inl rfl,rfl⟩) HR.out)
   go_wp2_with fail
   refine bodyPost_ret ?_ rfl HH.out
   simp [results,Try.results45,go_sem,k0,k1,k2,k3,k4,k5]
  ·have h0:((r2:Int) == 0)=false:=by simp; omega
   have hex:=zhi (zd0 Hss.out HE.out)
   go_wp2_with fail
   refine hex.out.mono ?_
   rintro e w3 ⟨x,k,o,a,lf,s',A,n,c,rfl,hge,hx,hss,hc⟩
   have HG:=zhi hge
   have HX:=zhi hx
   replace Hss:=zhi hss
   clear hex hge hx hss hc
   have hon:=zhi (z1n Hss.out HX.out 8 ⟨#[]⟩)
   go_wp2_with fail
   refine hon.out.mono ?_
   rintro e w4 ⟨b,rfl,hr,hss,hc⟩
   have HR:=zhi hr
   replace Hss:=zhi hss
   clear hon hr hss hc HX
   have HB:=zhi (Hss.out.res HW.out Hls.out)
   go_wp2_with (with_reducible refine z01 ?_)
   refine z08.of (z00 _ rfl _ _ _ rfl w.heap.size _ rfl (by rfl) _ _ HB.out (by kernel_rfl) (by rfl) (by simp [Value.oneCell']) ?_)
   intro w9 hrow hg9
   obtain ⟨k0,k1,k2,k3,k4,k5⟩:=cl6 hrow
   have Hg9:=zhi hg9
   clear hrow hg9
   have HH:Hid (z1d m g l E bud base d w _ w9):=zhi (z1u (k:=8) (s:=⟨#[]⟩) Hss.out HW.out Hls.out HE.out Hb0.out Hln.out Hg9.out HG.out (.inr ⟨.inr (.inr rfl),rfl⟩) HR.out)
   go_wp2_with fail
   refine bodyPost_ret ?_ rfl HH.out
   simp [results,Try.results45,go_sem,k0,k1,k2,k3,k4,k5]
 ·have hex:=zhi (z0M Hss.out HE.out)
  go_wp2_with fail
  refine hex.out.mono ?_
  rintro e w3 ⟨x,k,o,a,lf,s',A,n,c,rfl,hge,hx,hss,hc⟩
  have HG:=zhi hge
  have HX:=zhi hx
  replace Hss:=zhi hss
  clear hex hge hx hss hc
  have hon:=zhi (z1n Hss.out HX.out 7 ⟨#[]⟩)
  go_wp2_with fail
  refine hon.out.mono ?_
  rintro e w4 ⟨b,rfl,hr,hss,hc⟩
  have HR:=zhi hr
  replace Hss:=zhi hss
  clear hon hr hss hc HX
  have HB:=zhi (Hss.out.res HW.out Hls.out)
  go_wp2_with (with_reducible refine z01 ?_)
  refine z08.of (z00 _ rfl _ _ _ rfl w.heap.size _ rfl (by rfl) _ _ HB.out (by kernel_rfl) (by rfl) (by simp [Value.oneCell']) ?_)
  intro w9 hrow hg9
  obtain ⟨k0,k1,k2,k3,k4,k5⟩:=cl6 hrow
  have Hg9:=zhi hg9
  clear hrow hg9
  have HH:Hid (z1d m g l E bud base d w _ w9):=zhi (z1u (k:=7) (s:=⟨#[]⟩) Hss.out HW.out Hls.out HE.out Hb0.out Hln.out Hg9.out HG.out (.inr ⟨.inr (.inl rfl),rfl⟩) HR.out)
  go_wp2_with fail
  refine bodyPost_ret ?_ rfl HH.out
  simp [results,Try.results45,go_sem,k0,k1,k2,k3,k4,k5]
end Go.Proofs.Ytleicdfkagejoaa
