/-
  Kt: Gen3, Gen4. Walks and laws that the statement's proof is made of. No condition of its own.
-/
import Derived.Test.YtleicdfkagejoaaKs
namespace Go.Proofs.Ytleicdfkagejoaa
open Go.RowKit
def zec (v:Value) (w:World) (e:Ending) (w':World):Prop:=e=.returned v∧Below w.heap.size w w'
set_option maxRecDepth 100000 in
set_option maxHeartbeats 2000000 in
theorem z1E (k o:Int) (A:Option Addr) (n c:Nat) (w:World):Calls Try.prog 78 #[.int .i64 k,.int .i64 o,.slice A n c] w (zec (.agg #[.int .i64 k,.int .i64 o,.int .i64 0,.int .i64 0,.string ⟨#[]⟩,.slice A n c]) w):=by
 have hb:=(Below.refl _ w).alloc (Nat.le_refl _) (.cells #[.int .i64 0,.int .i64 0,.int .i64 0,.int .i64 0,.string { data:=#[] },.slice none 0 0] 112)
 have hr:=heap_alloc_new w (.cells #[.int .i64 0,.int .i64 0,.int .i64 0,.int .i64 0,.string { data:=#[] },.slice none 0 0] 112)
 have HB:=zhi hb
 have HR:=zhi hr
 clear hb hr
 go_enter Try.func78,Try.ntmps78
 go_wp2_with (with_reducible refine z01 ?_)
 refine z08.of (z00 _ rfl _ _ _ rfl w.heap.size _ rfl (by rfl) _ _ HR.out (by kernel_rfl) (by rfl) (by simp [Value.oneCell']) ?_)
 intro w9 hrow hg9
 obtain ⟨k0,k1,k2,k3,k4,k5⟩:=cl6 hrow
 have HH:=zhi (HB.out.trans (z07 hg9 (fun k hk=>by injection hk with hk; omega) (by simp):Below w.heap.size _ w9))
 clear hrow hg9
 go_wp2_with fail
 exact bodyPost_ret (v:=.agg #[.int .i64 k,.int .i64 o,.int .i64 0,.int .i64 0,.string ⟨#[]⟩,.slice A n c]) (by simp [results,Try.results78,go_sem,k0,k1,k2,k3,k4,k5]) rfl ⟨rfl,HH.out⟩
end Go.Proofs.Ytleicdfkagejoaa
namespace Go.Proofs.Ytleicdfkagejoaa
open Go.RowKit
def z5u (m g:Nat) (l:List Nat) (E:Env) (bud:Int) (d:Nat):Prop:=∀ (w:World) (z:Int),z=(d:Int)→GS w m g l E bud→Calls Try.prog 64 #[.pointer (some ⟨m,0,none⟩),.int .i64 z] w (z85 m g l E bud d w)
def z83 (m g:Nat) (l:List Nat) (E:Env) (bud:Int) (d:Nat):Prop:=∀ (w:World) (z:Int),z=(d:Int)+1→GS w m g l E bud→Calls Try.prog 67 #[.pointer (some ⟨m,0,none⟩),.int .i64 z] w (z85 m g l E bud (d+1) w)
theorem z0W {F G:Nat→Prop} {w w':World} {d:Nat} {x:Ex} {v:Value} (hx:ExV F w d x v) (hF:∀ k,F k→G k∧k<w.heap.size) (hg:Below w.heap.size w w'):ExV G w' d x v :=
 hx.keep (fun k hk=>(hF k hk).1) (fun k hk=>hg.block k (hF k hk).2)
set_option maxRecDepth 100000 in
set_option maxHeartbeats 8000000 in
theorem zds (m g:Nat) (l:List Nat) (E:Env) (bud:Int) (hE:z1o E):z5u m g l E bud 0:=by
 intro w z hz h
 have Hgs:=zhi h
 have hglt:=h.glt
 have hmlt:=h.mka.lt
 have hgs0:=h.below ((Below.refl _ w).alloc (Nat.le_refl _) (.cells #[.int .i64 0,.int .i64 0,.int .i64 0,.int .i64 0,.string { data:=#[] },.slice none 0 0] 112))
 obtain ⟨_,_,_,_,_,_,c0,z1,z2,z3,z4,z5,z6,z7⟩:=hgs0.cells
 clear z1 z2 z3 z4 z5 z6 z7
 have hlf:=zhi (z73 m g l E bud 0 _ hgs0 hE)
 have hzz:z=0:=by simpa using hz
 subst hzz
 clear hgs0 h hE hz
 go_enter Try.func64,Try.ntmps64
 go_wp2_with fail
 refine hlf.out.mono ?_
 rintro e w1 ⟨x,v,rfl,hge,hx,hgs1,hg1⟩
 have HB:=zhi (z04 hg1 (by omega) (heap_alloc_new w (.cells #[.int .i64 0,.int .i64 0,.int .i64 0,.int .i64 0,.string { data:=#[] },.slice none 0 0] 112)))
 have Hg01:=zhi ((World.grownBy_alloc w (.cells #[.int .i64 0,.int .i64 0,.int .i64 0,.int .i64 0,.string { data:=#[] },.slice none 0 0] 112) (some g)).trans hg1)
 have Hgs1:=zhi hgs1
 have HGE:=zhi hge
 obtain ⟨k,o,a,l',s,A,n,c,rfl,_⟩:=z0I hx
 have HX:=zhi hx
 have HF:Hid (∀ k,((w.alloc (.cells #[.int .i64 0,.int .i64 0,.int .i64 0,.int .i64 0,.string { data:=#[] },.slice none 0 0] 112)).heap.size≤k∧k<w1.heap.size)→w.heap.size<k∧k<w1.heap.size):=zhi (fun k hk=>by simp at hk; omega)
 clear hlf hge hx hgs1 hg1
 go_wp2_with (with_reducible refine z01 ?_)
 refine z08.of (z00 _ rfl _ _ _ rfl w.heap.size _ rfl (by rfl) _ _ HB.out (by kernel_rfl) (by rfl) (by simp [Value.oneCell']) ?_)
 intro w9 hrow hg9
 have H2:=Hgs.out.own Hgs1.out Hg01.out (Nat.le_refl _) hg9
 have HY:=zhi (z16 HX.out HF.out hg9)
 obtain ⟨k0,k1,k2,k3,k4,k5⟩:=cl6 hrow
 have HH:=zhi H2
 clear hrow hg9 H2 HX HF
 go_wp2_with fail
 refine bodyPost_ret ?_ rfl ⟨_,_,rfl,HGE.out,HY.out,HH.out.1,HH.out.2⟩
 simp [results,Try.results64,go_sem,k0,k1,k2,k3,k4,k5]
theorem zdu {E:Env} {d:Nat} {x:Ex} {o:Int} (hx:GX E d x) (h:1≤o∧o≤2):GX E (d+1) (.mk 5 o 0 0 ⟨#[]⟩ [x]) :=
 ⟨⟨⟨rfl,by unfold CnOk; simp⟩,by omega,by omega,by decide,by decide,by decide,.inr ⟨by simpa using hx.1,.inl ⟨rfl,h.1,h.2,rfl⟩⟩⟩,z2O (z0L (by decide)) (by simpa using hx.2)⟩
theorem z4x {E:Env} {d:Nat} {x y:Ex} {k o:Int} (hx:GX E d x) (hy:GX E d y) (h:0≤o∧o≤11) (hk:(k=6∧3≤o)∨k=7∨k=8) (hc:CnOk k o 0 ⟨#[]⟩:=by unfold CnOk; simp):GX E (d+1) (.mk k o 0 0 ⟨#[]⟩ [x,y]) :=
 ⟨⟨⟨rfl,hc⟩,h.1,h.2,by decide,by decide,by decide,.inr ⟨by simpa using ⟨hx.1,hy.1⟩,by rcases hk with ⟨h1,h2⟩ | h1 | h1 <;> simp [h1]; exact h2⟩⟩,z2O (z0L (by omega)) (by simpa using ⟨hx.2,hy.2⟩)⟩
theorem zcu {E:Env} {d:Nat} {x:Ex} {s:ByteArray} (hx:GX E d x) (hs:z0E s∧IsGl E true s):GX E (d+1) (.mk 4 0 0 0 s [x]) :=
 ⟨⟨⟨rfl,by unfold CnOk; simp⟩,by decide,by decide,by decide,by decide,hs.1.1,.inr ⟨by simpa using hx.1,by simp [hs.1]⟩⟩,z2O ⟨by simp,fun _=>hs.2,by simp,by simp⟩ (by simpa using hx.2)⟩
set_option maxRecDepth 100000 in
set_option maxHeartbeats 4000000 in
theorem z7B (m g:Nat) (l:List Nat) (E:Env) (bud:Int) (d:Nat) (hd:d≤5) (hE:z1o E) (ihE:z5u m g l E bud d) (ihC:z83 m g l E bud d):z5u m g l E bud (d+1):=by
 intro w z hz h
 have Hgs:=zhi h
 have HE:=zhi hE
 have hglt:=h.glt
 have hmlt:=h.mka.lt
 have hgs0:=h.below ((Below.refl _ w).alloc (Nat.le_refl _) (.cells #[.int .i64 0,.int .i64 0,.int .i64 0,.int .i64 0,.string { data:=#[] },.slice none 0 0] 112))
 obtain ⟨_,_,_,_,_,_,c0,z1,z2,z3,z4,z5,z6,z7⟩:=hgs0.cells
 clear z1 z2 z3 z4 z5 z6 z7
 have hnx:=zhi (z0p 3 3 hgs0 rfl (by omega))
 have hz1:1≤z:=by omega
 have hz6:z≤6:=by omega
 have hlt:decide (z<1)=false:=by simp; omega
 have Hz:=zhi hz
 have IHE:=zhi ihE
 have IHC:=zhi ihC
 clear hgs0 h hE hz ihE ihC
 go_enter Try.func64,Try.ntmps64
 go_wp2_with fail
 refine hnx.out.mono ?_
 rintro e w1 ⟨q,rfl,hq1,_,hgs1,hg1⟩
 have hq3:=hq1 (by omega)
 have HB:=zhi (z04 hg1 (by omega) (heap_alloc_new w (.cells #[.int .i64 0,.int .i64 0,.int .i64 0,.int .i64 0,.string { data:=#[] },.slice none 0 0] 112)))
 have Hg01:=zhi ((World.grownBy_alloc w (.cells #[.int .i64 0,.int .i64 0,.int .i64 0,.int .i64 0,.string { data:=#[] },.slice none 0 0] 112) (some g)).trans hg1)
 have Hgs1:=zhi hgs1
 clear hnx hq1 hgs1 hg1 c0
 by_cases hq0:q=0
 ·subst hq0
  have hlf:=zhi (z73 m g l E bud (d+1) w1 Hgs1.out HE.out)
  have hlw:=(Array.getElem?_eq_some_iff.1 HB.out).1
  go_wp2_with fail
  refine hlf.out.mono ?_
  rintro e w2 ⟨x,v,rfl,hge,hx,hgs2,hg2⟩
  have HGE:=zhi hge
  obtain ⟨k,o,a,l',s,A,n,c,rfl,_⟩:=z0I hx
  have HX:=zhi hx
  have HF:Hid (∀ k,(w1.heap.size≤k∧k<w2.heap.size)→w.heap.size<k∧k<w2.heap.size):=zhi (fun k hk=>by omega)
  clear hlf hge hx hlw
  replace Hgs1:=zhi hgs2
  replace HB:=zhi (z04 hg2 (by omega) HB.out)
  replace Hg01:=zhi (Hg01.out.trans hg2)
  clear hgs2 hg2
  go_wp2_with (with_reducible refine z01 ?_)
  refine z08.of (z00 _ rfl _ _ _ rfl w.heap.size _ rfl (by rfl) _ _ HB.out (by kernel_rfl) (by rfl) (by simp [Value.oneCell']) ?_)
  intro w9 hrow hg9
  have H2:=Hgs.out.own Hgs1.out Hg01.out (Nat.le_refl _) hg9
  have HY:=zhi (z16 HX.out HF.out hg9)
  obtain ⟨k0,k1,k2,k3,k4,k5⟩:=cl6 hrow
  have HH:=zhi H2
  clear hrow hg9 H2 HX HF
  go_wp2_with fail
  refine bodyPost_ret ?_ rfl ⟨_,_,rfl,HGE.out,HY.out,HH.out.1,HH.out.2⟩
  simp [results,Try.results64,go_sem,k0,k1,k2,k3,k4,k5]
 have hq0:((q:Int) == 0)=false:=by simp; omega
 have hn9:=zhi (z0p 9 9 Hgs1.out rfl (by omega))
 go_wp2_with fail
 refine hn9.out.mono ?_
 rintro e w2 ⟨r,rfl,hr1,_,hgs2,hg2⟩
 have hr9:=hr1 (by omega)
 clear hn9 hr1
 replace Hgs1:=zhi hgs2
 replace HB:=zhi (z04 hg2 (by omega) HB.out)
 replace Hg01:=zhi (Hg01.out.trans hg2)
 clear hgs2 hg2
 have hcase:r=0∨r=1∨r=2∨r=3∨r=4∨r=5∨r=6∨r=7∨r=8:=by omega
 clear hr9
 rcases hcase with rfl | rfl | rfl | rfl | rfl | rfl | rfl | rfl | rfl
 ·have hn2:=zhi (z0p 2 2 Hgs1.out rfl (by omega))
  go_wp2_with fail
  refine hn2.out.mono ?_
  rintro e w3 ⟨q2,rfl,hq2,_,hgs3,hg3⟩
  have hq22:=hq2 (by omega)
  clear hn2 hq2
  replace Hgs1:=zhi hgs3
  replace HB:=zhi (z04 hg3 (by omega) HB.out)
  replace Hg01:=zhi (Hg01.out.trans hg3)
  clear hgs3 hg3
  have hih:=zhi (IHE.out _ (z - 1) (by have:=Hz.out; omega) Hgs1.out)
  have hlw:=(Array.getElem?_eq_some_iff.1 HB.out).1
  go_wp2_with fail
  refine hih.out.mono ?_
  rintro e ws ⟨x,v,rfl,hge,hx,hgs,hg⟩
  obtain ⟨k,o,a,lf,s,A,n,c,rfl,_⟩:=z0I hx
  replace hx:=hx.keep (G:=fun k=>w.heap.size<k∧k<(World.heap ws).size) (fun k hk=>⟨by omega,hk.2⟩) (fun _ _=>rfl)
  have HX1:=zhi hx
  have HG1:=zhi hge
  have hGb:=zhi hg
  clear hih hge hx hlw
  replace Hgs1:=zhi hgs
  replace HB:=zhi (z04 hg (by omega) HB.out)
  replace Hg01:=zhi (Hg01.out.trans hg)
  clear hgs hg
  go_wp2_with fail
  refine (z1E _ _ _ _ _ _).mono ?_
  rintro e w5 ⟨rfl,hb5⟩
  have hlw:=(Array.getElem?_eq_some_iff.1 HB.out).1
  have hblk:=(hb5.block (World.heap ws).size (by simp)).trans (heap_alloc_new ws _)
  have hlow:=z0b ((Below.refl _ ws).alloc (Nat.le_refl _) _) hb5
  have hsz:=hb5.size
  have HX:Hid (ExV (fun k=>w.heap.size<k∧k<w5.heap.size) w5 (d+2) (.mk 5 (1+(q2:Int)) 0 0 ⟨#[]⟩ [x]) (.agg #[.int .i64 5,.int .i64 (1+(q2:Int)),.int .i64 0,.int .i64 0,.string ⟨#[]⟩,.slice (some ⟨(World.heap ws).size,0,none⟩) 1 1])):=zhi ⟨_,_,rfl,z2A HX1.out (fun k hk=>⟨hk.1,Nat.lt_of_lt_of_le hk.2 hlow.size⟩) (fun k hk=>hlow.block k hk.2) ⟨hlw,by simp at hsz; omega⟩ hblk⟩
  have HGE:Hid (GX E (d+1) (.mk 5 (1+(q2:Int)) 0 0 ⟨#[]⟩ [x])):=zhi (zdu HG1.out ⟨by omega,by omega⟩)
  clear hb5 hblk
  replace Hgs1:=zhi (Hgs1.out.below hlow)
  replace HB:=zhi ((hlow.block _ hlw).trans HB.out)
  replace Hg01:=zhi (Hg01.out.trans (z02 hlow (some g)))
  have HF:Hid (∀ k,(w.heap.size<k∧k<(World.heap w5).size)→w.heap.size<k∧k<(World.heap w5).size):=zhi (fun k hk=>hk)
  clear hlow hlw hsz
  go_wp2_with (with_reducible refine z01 ?_)
  refine z08.of (z00 _ rfl _ _ _ rfl w.heap.size _ rfl (by rfl) _ _ HB.out (by kernel_rfl) (by rfl) (by simp [Value.oneCell']) ?_)
  intro w9 hrow hg9
  have H2:=Hgs.out.own Hgs1.out Hg01.out (Nat.le_refl _) hg9
  have HY:=zhi (z16 HX.out HF.out hg9)
  obtain ⟨k0,k1,k2,k3,k4,k5⟩:=cl6 hrow
  have HH:=zhi H2
  clear hrow hg9 H2 HX HF
  go_wp2_with fail
  refine bodyPost_ret ?_ rfl ⟨_,_,rfl,HGE.out,HY.out,HH.out.1,HH.out.2⟩
  simp [results,Try.results64,go_sem,k0,k1,k2,k3,k4,k5]
 ·have hih:=zhi (IHE.out _ (z - 1) (by have:=Hz.out; omega) Hgs1.out)
  have hlw:=(Array.getElem?_eq_some_iff.1 HB.out).1
  go_wp2_with fail
  refine hih.out.mono ?_
  rintro e ws ⟨x,v,rfl,hge,hx,hgs,hg⟩
  obtain ⟨k,o,a,lf,s,A,n,c,rfl,_⟩:=z0I hx
  replace hx:=hx.keep (G:=fun k=>w.heap.size<k∧k<(World.heap ws).size) (fun k hk=>⟨by omega,hk.2⟩) (fun _ _=>rfl)
  have HX1:=zhi hx
  have HG1:=zhi hge
  have hGb:=zhi hg
  clear hih hge hx hlw
  replace Hgs1:=zhi hgs
  replace HB:=zhi (z04 hg (by omega) HB.out)
  replace Hg01:=zhi (Hg01.out.trans hg)
  clear hgs hg
  have hih:=zhi (IHE.out _ (z - 1) (by have:=Hz.out; omega) Hgs1.out)
  have hlw:=(Array.getElem?_eq_some_iff.1 HB.out).1
  go_wp2_with fail
  refine hih.out.mono ?_
  rintro e wt ⟨y,v,rfl,hge,hx,hgs,hg⟩
  obtain ⟨k',o',a',lf',s',A',n',c',rfl,_⟩:=z0I hx
  replace hx:=hx.keep (G:=fun k=>w.heap.size<k∧k<(World.heap wt).size) (fun k hk=>⟨by omega,hk.2⟩) (fun _ _=>rfl)
  have HX2:=zhi hx
  have HG2:=zhi hge
  have hGb:=zhi hg
  clear hih hge hx hlw
  replace Hgs1:=zhi hgs
  replace HB:=zhi (z04 hg (by omega) HB.out)
  replace Hg01:=zhi (Hg01.out.trans hg)
  clear hgs hg
  have hwst:=hGb.out.size
  have hlw:=(Array.getElem?_eq_some_iff.1 HB.out).1
  replace HX1:=zhi (z0J (G:=fun k=>w.heap.size<k∧k<wt.heap.size) HX1.out (fun k hk=>⟨⟨hk.1,by omega⟩,hk.2,by omega⟩) hGb.out)
  clear hlw hwst
  go_wp2_with fail
  refine (z1E _ _ _ _ _ _).mono ?_
  rintro e w5 ⟨rfl,hb5⟩
  have hlw:=(Array.getElem?_eq_some_iff.1 HB.out).1
  have hblk:=(hb5.block wt.heap.size (by simp)).trans (heap_alloc_new wt _)
  have hlow:=z0b ((Below.refl _ wt).alloc (Nat.le_refl _) _) hb5
  have hsz:=hb5.size
  have HX:Hid (ExV (fun k=>w.heap.size<k∧k<w5.heap.size) w5 (d+2) (.mk 7 0 0 0 ⟨#[]⟩ [x,y]) (.agg #[.int .i64 7,.int .i64 0,.int .i64 0,.int .i64 0,.string ⟨#[]⟩,.slice (some ⟨wt.heap.size,0,none⟩) 2 2])):=zhi ⟨_,_,rfl,z2h (z0W HX1.out (fun k hk=>⟨⟨hk.1,Nat.lt_of_lt_of_le hk.2 hlow.size⟩,hk.2⟩) hlow) (z0W HX2.out (fun k hk=>⟨⟨hk.1,Nat.lt_of_lt_of_le hk.2 hlow.size⟩,hk.2⟩) hlow) ⟨hlw,by simp at hsz; omega⟩ hblk⟩
  have HGE:Hid (GX E (d+1) (.mk 7 0 0 0 ⟨#[]⟩ [x,y])):=zhi (z4x HG1.out HG2.out (by decide) (.inr (.inl rfl)))
  clear hb5 hblk
  replace Hgs1:=zhi (Hgs1.out.below hlow)
  replace HB:=zhi ((hlow.block _ hlw).trans HB.out)
  replace Hg01:=zhi (Hg01.out.trans (z02 hlow (some g)))
  have HF:Hid (∀ k,(w.heap.size<k∧k<(World.heap w5).size)→w.heap.size<k∧k<(World.heap w5).size):=zhi (fun k hk=>hk)
  clear hlow hlw hsz
  go_wp2_with (with_reducible refine z01 ?_)
  refine z08.of (z00 _ rfl _ _ _ rfl w.heap.size _ rfl (by rfl) _ _ HB.out (by kernel_rfl) (by rfl) (by simp [Value.oneCell']) ?_)
  intro w9 hrow hg9
  have H2:=Hgs.out.own Hgs1.out Hg01.out (Nat.le_refl _) hg9
  have HY:=zhi (z16 HX.out HF.out hg9)
  obtain ⟨k0,k1,k2,k3,k4,k5⟩:=cl6 hrow
  have HH:=zhi H2
  clear hrow hg9 H2 HX HF
  go_wp2_with fail
  refine bodyPost_ret ?_ rfl ⟨_,_,rfl,HGE.out,HY.out,HH.out.1,HH.out.2⟩
  simp [results,Try.results64,go_sem,k0,k1,k2,k3,k4,k5]
 ·have hih:=zhi (IHE.out _ (z - 1) (by have:=Hz.out; omega) Hgs1.out)
  have hlw:=(Array.getElem?_eq_some_iff.1 HB.out).1
  go_wp2_with fail
  refine hih.out.mono ?_
  rintro e ws ⟨x,v,rfl,hge,hx,hgs,hg⟩
  obtain ⟨k,o,a,lf,s,A,n,c,rfl,_⟩:=z0I hx
  replace hx:=hx.keep (G:=fun k=>w.heap.size<k∧k<(World.heap ws).size) (fun k hk=>⟨by omega,hk.2⟩) (fun _ _=>rfl)
  have HX1:=zhi hx
  have HG1:=zhi hge
  have hGb:=zhi hg
  clear hih hge hx hlw
  replace Hgs1:=zhi hgs
  replace HB:=zhi (z04 hg (by omega) HB.out)
  replace Hg01:=zhi (Hg01.out.trans hg)
  clear hgs hg
  have hih:=zhi (IHE.out _ (z - 1) (by have:=Hz.out; omega) Hgs1.out)
  have hlw:=(Array.getElem?_eq_some_iff.1 HB.out).1
  go_wp2_with fail
  refine hih.out.mono ?_
  rintro e wt ⟨y,v,rfl,hge,hx,hgs,hg⟩
  obtain ⟨k',o',a',lf',s',A',n',c',rfl,_⟩:=z0I hx
  replace hx:=hx.keep (G:=fun k=>w.heap.size<k∧k<(World.heap wt).size) (fun k hk=>⟨by omega,hk.2⟩) (fun _ _=>rfl)
  have HX2:=zhi hx
  have HG2:=zhi hge
  have hGb:=zhi hg
  clear hih hge hx hlw
  replace Hgs1:=zhi hgs
  replace HB:=zhi (z04 hg (by omega) HB.out)
  replace Hg01:=zhi (Hg01.out.trans hg)
  clear hgs hg
  have hwst:=hGb.out.size
  have hlw:=(Array.getElem?_eq_some_iff.1 HB.out).1
  replace HX1:=zhi (z0J (G:=fun k=>w.heap.size<k∧k<wt.heap.size) HX1.out (fun k hk=>⟨⟨hk.1,by omega⟩,hk.2,by omega⟩) hGb.out)
  clear hlw hwst
  go_wp2_with fail
  refine (z1E _ _ _ _ _ _).mono ?_
  rintro e w5 ⟨rfl,hb5⟩
  have hlw:=(Array.getElem?_eq_some_iff.1 HB.out).1
  have hblk:=(hb5.block wt.heap.size (by simp)).trans (heap_alloc_new wt _)
  have hlow:=z0b ((Below.refl _ wt).alloc (Nat.le_refl _) _) hb5
  have hsz:=hb5.size
  have HX:Hid (ExV (fun k=>w.heap.size<k∧k<w5.heap.size) w5 (d+2) (.mk 8 0 0 0 ⟨#[]⟩ [x,y]) (.agg #[.int .i64 8,.int .i64 0,.int .i64 0,.int .i64 0,.string ⟨#[]⟩,.slice (some ⟨wt.heap.size,0,none⟩) 2 2])):=zhi ⟨_,_,rfl,z2h (z0W HX1.out (fun k hk=>⟨⟨hk.1,Nat.lt_of_lt_of_le hk.2 hlow.size⟩,hk.2⟩) hlow) (z0W HX2.out (fun k hk=>⟨⟨hk.1,Nat.lt_of_lt_of_le hk.2 hlow.size⟩,hk.2⟩) hlow) ⟨hlw,by simp at hsz; omega⟩ hblk⟩
  have HGE:Hid (GX E (d+1) (.mk 8 0 0 0 ⟨#[]⟩ [x,y])):=zhi (z4x HG1.out HG2.out (by decide) (.inr (.inr rfl)))
  clear hb5 hblk
  replace Hgs1:=zhi (Hgs1.out.below hlow)
  replace HB:=zhi ((hlow.block _ hlw).trans HB.out)
  replace Hg01:=zhi (Hg01.out.trans (z02 hlow (some g)))
  have HF:Hid (∀ k,(w.heap.size<k∧k<(World.heap w5).size)→w.heap.size<k∧k<(World.heap w5).size):=zhi (fun k hk=>hk)
  clear hlow hlw hsz
  go_wp2_with (with_reducible refine z01 ?_)
  refine z08.of (z00 _ rfl _ _ _ rfl w.heap.size _ rfl (by rfl) _ _ HB.out (by kernel_rfl) (by rfl) (by simp [Value.oneCell']) ?_)
  intro w9 hrow hg9
  have H2:=Hgs.out.own Hgs1.out Hg01.out (Nat.le_refl _) hg9
  have HY:=zhi (z16 HX.out HF.out hg9)
  obtain ⟨k0,k1,k2,k3,k4,k5⟩:=cl6 hrow
  have HH:=zhi H2
  clear hrow hg9 H2 HX HF
  go_wp2_with fail
  refine bodyPost_ret ?_ rfl ⟨_,_,rfl,HGE.out,HY.out,HH.out.1,HH.out.2⟩
  simp [results,Try.results64,go_sem,k0,k1,k2,k3,k4,k5]
 ·have hcl:=zhi (IHC.out _ z (by have:=Hz.out; omega) Hgs1.out)
  have hlw:=(Array.getElem?_eq_some_iff.1 HB.out).1
  go_wp2_with fail
  refine hcl.out.mono ?_
  rintro e w5 ⟨x,v,rfl,hge,hx,hgs5,hg5⟩
  have HGE:=zhi hge
  obtain ⟨k,o,a,l',s,A,n,c,rfl,_⟩:=z0I hx
  have HX:=zhi hx
  have HF:Hid (∀ k,(w2.heap.size≤k∧k<w5.heap.size)→w.heap.size<k∧k<w5.heap.size):=zhi (fun k hk=>by omega)
  clear hcl hge hx hlw
  replace Hgs1:=zhi hgs5
  replace HB:=zhi (z04 hg5 (by omega) HB.out)
  replace Hg01:=zhi (Hg01.out.trans hg5)
  clear hgs5 hg5
  go_wp2_with (with_reducible refine z01 ?_)
  refine z08.of (z00 _ rfl _ _ _ rfl w.heap.size _ rfl (by rfl) _ _ HB.out (by kernel_rfl) (by rfl) (by simp [Value.oneCell']) ?_)
  intro w9 hrow hg9
  have H2:=Hgs.out.own Hgs1.out Hg01.out (Nat.le_refl _) hg9
  have HY:=zhi (z16 HX.out HF.out hg9)
  obtain ⟨k0,k1,k2,k3,k4,k5⟩:=cl6 hrow
  have HH:=zhi H2
  clear hrow hg9 H2 HX HF
  go_wp2_with fail
  refine bodyPost_ret ?_ rfl ⟨_,_,rfl,HGE.out,HY.out,HH.out.1,HH.out.2⟩
  simp [results,Try.results64,go_sem,k0,k1,k2,k3,k4,k5]
 ·have hcl:=zhi (IHC.out _ z (by have:=Hz.out; omega) Hgs1.out)
  have hlw:=(Array.getElem?_eq_some_iff.1 HB.out).1
  go_wp2_with fail
  refine hcl.out.mono ?_
  rintro e w5 ⟨x,v,rfl,hge,hx,hgs5,hg5⟩
  have HGE:=zhi hge
  obtain ⟨k,o,a,l',s,A,n,c,rfl,_⟩:=z0I hx
  have HX:=zhi hx
  have HF:Hid (∀ k,(w2.heap.size≤k∧k<w5.heap.size)→w.heap.size<k∧k<w5.heap.size):=zhi (fun k hk=>by omega)
  clear hcl hge hx hlw
  replace Hgs1:=zhi hgs5
  replace HB:=zhi (z04 hg5 (by omega) HB.out)
  replace Hg01:=zhi (Hg01.out.trans hg5)
  clear hgs5 hg5
  go_wp2_with (with_reducible refine z01 ?_)
  refine z08.of (z00 _ rfl _ _ _ rfl w.heap.size _ rfl (by rfl) _ _ HB.out (by kernel_rfl) (by rfl) (by simp [Value.oneCell']) ?_)
  intro w9 hrow hg9
  have H2:=Hgs.out.own Hgs1.out Hg01.out (Nat.le_refl _) hg9
  have HY:=zhi (z16 HX.out HF.out hg9)
  obtain ⟨k0,k1,k2,k3,k4,k5⟩:=cl6 hrow
  have HH:=zhi H2
  clear hrow hg9 H2 HX HF
  go_wp2_with fail
  refine bodyPost_ret ?_ rfl ⟨_,_,rfl,HGE.out,HY.out,HH.out.1,HH.out.2⟩
  simp [results,Try.results64,go_sem,k0,k1,k2,k3,k4,k5]
 ·have hpk:=zhi (z5k m g l E bud true w2 Hgs1.out HE.out)
  go_wp2_with fail
  refine hpk.out.mono ?_
  rintro e w3 ⟨s0,ok,rfl,hok,hgs3,hg3⟩
  have Hok:=zhi hok
  clear hpk hok
  replace Hgs1:=zhi hgs3
  replace HB:=zhi (z04 hg3 (by omega) HB.out)
  replace Hg01:=zhi (Hg01.out.trans hg3)
  clear hgs3 hg3
  cases ok with
  | false =>
        have hn2:=zhi (z0p 9 9 Hgs1.out rfl (by omega))
        go_wp2_with fail
        refine hn2.out.mono ?_
        rintro e w3 ⟨q2,rfl,hq2,_,hgs3,hg3⟩
        have hq22:=hq2 (by omega)
        clear hn2 hq2
        replace Hgs1:=zhi hgs3
        replace HB:=zhi (z04 hg3 (by omega) HB.out)
        replace Hg01:=zhi (Hg01.out.trans hg3)
        clear hgs3 hg3
        have hih:=zhi (IHE.out _ (z - 1) (by have:=Hz.out; omega) Hgs1.out)
        have hlw:=(Array.getElem?_eq_some_iff.1 HB.out).1
        go_wp2_with fail
        refine hih.out.mono ?_
        rintro e ws ⟨x,v,rfl,hge,hx,hgs,hg⟩
        obtain ⟨k,o,a,lf,s,A,n,c,rfl,_⟩:=z0I hx
        replace hx:=hx.keep (G:=fun k=>w.heap.size<k∧k<(World.heap ws).size) (fun k hk=>⟨by omega,hk.2⟩) (fun _ _=>rfl)
        have HX1:=zhi hx
        have HG1:=zhi hge
        have hGb:=zhi hg
        clear hih hge hx hlw
        replace Hgs1:=zhi hgs
        replace HB:=zhi (z04 hg (by omega) HB.out)
        replace Hg01:=zhi (Hg01.out.trans hg)
        clear hgs hg
        have hih:=zhi (IHE.out _ (z - 1) (by have:=Hz.out; omega) Hgs1.out)
        have hlw:=(Array.getElem?_eq_some_iff.1 HB.out).1
        go_wp2_with fail
        refine hih.out.mono ?_
        rintro e wt ⟨y,v,rfl,hge,hx,hgs,hg⟩
        obtain ⟨k',o',a',lf',s',A',n',c',rfl,_⟩:=z0I hx
        replace hx:=hx.keep (G:=fun k=>w.heap.size<k∧k<(World.heap wt).size) (fun k hk=>⟨by omega,hk.2⟩) (fun _ _=>rfl)
        have HX2:=zhi hx
        have HG2:=zhi hge
        have hGb:=zhi hg
        clear hih hge hx hlw
        replace Hgs1:=zhi hgs
        replace HB:=zhi (z04 hg (by omega) HB.out)
        replace Hg01:=zhi (Hg01.out.trans hg)
        clear hgs hg
        have hwst:=hGb.out.size
        have hlw:=(Array.getElem?_eq_some_iff.1 HB.out).1
        replace HX1:=zhi (z0J (G:=fun k=>w.heap.size<k∧k<wt.heap.size) HX1.out (fun k hk=>⟨⟨hk.1,by omega⟩,hk.2,by omega⟩) hGb.out)
        clear hlw hwst
        go_wp2_with fail
        refine (z1E _ _ _ _ _ _).mono ?_
        rintro e w5 ⟨rfl,hb5⟩
        have hlw:=(Array.getElem?_eq_some_iff.1 HB.out).1
        have hblk:=(hb5.block wt.heap.size (by simp)).trans (heap_alloc_new wt _)
        have hlow:=z0b ((Below.refl _ wt).alloc (Nat.le_refl _) _) hb5
        have hsz:=hb5.size
        have HX:Hid (ExV (fun k=>w.heap.size<k∧k<w5.heap.size) w5 (d+2) (.mk 6 (3+(q2:Int)) 0 0 ⟨#[]⟩ [x,y]) (.agg #[.int .i64 6,.int .i64 (3+(q2:Int)),.int .i64 0,.int .i64 0,.string ⟨#[]⟩,.slice (some ⟨wt.heap.size,0,none⟩) 2 2])):=zhi ⟨_,_,rfl,z2h (z0W HX1.out (fun k hk=>⟨⟨hk.1,Nat.lt_of_lt_of_le hk.2 hlow.size⟩,hk.2⟩) hlow) (z0W HX2.out (fun k hk=>⟨⟨hk.1,Nat.lt_of_lt_of_le hk.2 hlow.size⟩,hk.2⟩) hlow) ⟨hlw,by simp at hsz; omega⟩ hblk⟩
        have HGE:Hid (GX E (d+1) (.mk 6 (3+(q2:Int)) 0 0 ⟨#[]⟩ [x,y])):=zhi (z4x HG1.out HG2.out ⟨by omega,by omega⟩ (.inl ⟨rfl,by omega⟩))
        clear hb5 hblk
        replace Hgs1:=zhi (Hgs1.out.below hlow)
        replace HB:=zhi ((hlow.block _ hlw).trans HB.out)
        replace Hg01:=zhi (Hg01.out.trans (z02 hlow (some g)))
        have HF:Hid (∀ k,(w.heap.size<k∧k<(World.heap w5).size)→w.heap.size<k∧k<(World.heap w5).size):=zhi (fun k hk=>hk)
        clear hlow hlw hsz
        go_wp2_with (with_reducible refine z01 ?_)
        refine z08.of (z00 _ rfl _ _ _ rfl w.heap.size _ rfl (by rfl) _ _ HB.out (by kernel_rfl) (by rfl) (by simp [Value.oneCell']) ?_)
        intro w9 hrow hg9
        have H2:=Hgs.out.own Hgs1.out Hg01.out (Nat.le_refl _) hg9
        have HY:=zhi (z16 HX.out HF.out hg9)
        obtain ⟨k0,k1,k2,k3,k4,k5⟩:=cl6 hrow
        have HH:=zhi H2
        clear hrow hg9 H2 HX HF
        go_wp2_with fail
        refine bodyPost_ret ?_ rfl ⟨_,_,rfl,HGE.out,HY.out,HH.out.1,HH.out.2⟩
        simp [results,Try.results64,go_sem,k0,k1,k2,k3,k4,k5]
  | true =>
   have hs0:z0E s0∧IsGl E true s0:=⟨by obtain ⟨x,hx,rfl,_⟩:=Hok.out rfl; exact (HE.out.gs x hx).1,Hok.out rfl⟩
   have HS:=zhi hs0
   clear hs0
   have hih:=zhi (IHE.out _ (z - 1) (by have:=Hz.out; omega) Hgs1.out)
   have hlw:=(Array.getElem?_eq_some_iff.1 HB.out).1
   go_wp2_with fail
   refine hih.out.mono ?_
   rintro e ws ⟨x,v,rfl,hge,hx,hgs,hg⟩
   obtain ⟨k,o,a,lf,s,A,n,c,rfl,_⟩:=z0I hx
   replace hx:=hx.keep (G:=fun k=>w.heap.size<k∧k<(World.heap ws).size) (fun k hk=>⟨by omega,hk.2⟩) (fun _ _=>rfl)
   have HX1:=zhi hx
   have HG1:=zhi hge
   have hGb:=zhi hg
   clear hih hge hx hlw
   replace Hgs1:=zhi hgs
   replace HB:=zhi (z04 hg (by omega) HB.out)
   replace Hg01:=zhi (Hg01.out.trans hg)
   clear hgs hg
   have hlw:=(Array.getElem?_eq_some_iff.1 HB.out).1
   have hblk:=heap_alloc_new ws (.cells #[.int .i64 k,.int .i64 o,.int .i64 a,.int .i64 lf,.string s,.slice A n c] 112)
   have hlow:=(Below.refl _ ws).alloc (Nat.le_refl _) (.cells #[.int .i64 k,.int .i64 o,.int .i64 a,.int .i64 lf,.string s,.slice A n c] 112)
   have HX:Hid (ExV (fun k'=>w.heap.size<k'∧k'<(ws.alloc (.cells #[.int .i64 k,.int .i64 o,.int .i64 a,.int .i64 lf,.string s,.slice A n c] 112)).heap.size) (ws.alloc (.cells #[.int .i64 k,.int .i64 o,.int .i64 a,.int .i64 lf,.string s,.slice A n c] 112)) (d+2) (.mk 4 0 0 0 s0 [x]) (.agg #[.int .i64 4,.int .i64 0,.int .i64 0,.int .i64 0,.string s0,.slice (some ⟨ws.heap.size,0,none⟩) 1 1])) :=
    zhi ⟨_,_,rfl,z2A HX1.out (fun k hk=>⟨hk.1,Nat.lt_of_lt_of_le hk.2 hlow.size⟩) (fun k hk=>hlow.block k hk.2) ⟨hlw,by simp⟩ hblk⟩
   have HGE:Hid (GX E (d+1) (.mk 4 0 0 0 s0 [x])):=zhi (zcu HG1.out HS.out)
   have HF:Hid (∀ k',(w.heap.size<k'∧k'<(ws.alloc (.cells #[.int .i64 k,.int .i64 o,.int .i64 a,.int .i64 lf,.string s,.slice A n c] 112)).heap.size)→w.heap.size<k'∧k'<(ws.alloc (.cells #[.int .i64 k,.int .i64 o,.int .i64 a,.int .i64 lf,.string s,.slice A n c] 112)).heap.size):=zhi (fun k hk=>hk)
   replace Hgs1:=zhi (Hgs1.out.below hlow)
   replace HB:=zhi ((hlow.block _ hlw).trans HB.out)
   replace Hg01:=zhi (Hg01.out.trans (z02 hlow (some g)))
   clear hlow hlw hblk
   go_wp2_with (with_reducible refine z01 ?_)
   refine z08.of (z00 _ rfl _ _ _ rfl w.heap.size _ rfl (by rfl) _ _ HB.out (by kernel_rfl) (by rfl) (by simp [Value.oneCell']) ?_)
   intro w9 hrow hg9
   have H2:=Hgs.out.own Hgs1.out Hg01.out (Nat.le_refl _) hg9
   have HY:=zhi (z16 HX.out HF.out hg9)
   obtain ⟨k0,k1,k2,k3,k4,k5⟩:=cl6 hrow
   have HH:=zhi H2
   clear hrow hg9 H2 HX HF
   go_wp2_with fail
   refine bodyPost_ret ?_ rfl ⟨_,_,rfl,HGE.out,HY.out,HH.out.1,HH.out.2⟩
   simp [results,Try.results64,go_sem,k0,k1,k2,k3,k4,k5]
 ·have hn2:=zhi (z0p 9 9 Hgs1.out rfl (by omega))
  go_wp2_with fail
  refine hn2.out.mono ?_
  rintro e w3 ⟨q2,rfl,hq2,_,hgs3,hg3⟩
  have hq22:=hq2 (by omega)
  clear hn2 hq2
  replace Hgs1:=zhi hgs3
  replace HB:=zhi (z04 hg3 (by omega) HB.out)
  replace Hg01:=zhi (Hg01.out.trans hg3)
  clear hgs3 hg3
  have hih:=zhi (IHE.out _ (z - 1) (by have:=Hz.out; omega) Hgs1.out)
  have hlw:=(Array.getElem?_eq_some_iff.1 HB.out).1
  go_wp2_with fail
  refine hih.out.mono ?_
  rintro e ws ⟨x,v,rfl,hge,hx,hgs,hg⟩
  obtain ⟨k,o,a,lf,s,A,n,c,rfl,_⟩:=z0I hx
  replace hx:=hx.keep (G:=fun k=>w.heap.size<k∧k<(World.heap ws).size) (fun k hk=>⟨by omega,hk.2⟩) (fun _ _=>rfl)
  have HX1:=zhi hx
  have HG1:=zhi hge
  have hGb:=zhi hg
  clear hih hge hx hlw
  replace Hgs1:=zhi hgs
  replace HB:=zhi (z04 hg (by omega) HB.out)
  replace Hg01:=zhi (Hg01.out.trans hg)
  clear hgs hg
  have hih:=zhi (IHE.out _ (z - 1) (by have:=Hz.out; omega) Hgs1.out)
  have hlw:=(Array.getElem?_eq_some_iff.1 HB.out).1
  go_wp2_with fail
  refine hih.out.mono ?_
  rintro e wt ⟨y,v,rfl,hge,hx,hgs,hg⟩
  obtain ⟨k',o',a',lf',s',A',n',c',rfl,_⟩:=z0I hx
  replace hx:=hx.keep (G:=fun k=>w.heap.size<k∧k<(World.heap wt).size) (fun k hk=>⟨by omega,hk.2⟩) (fun _ _=>rfl)
  have HX2:=zhi hx
  have HG2:=zhi hge
  have hGb:=zhi hg
  clear hih hge hx hlw
  replace Hgs1:=zhi hgs
  replace HB:=zhi (z04 hg (by omega) HB.out)
  replace Hg01:=zhi (Hg01.out.trans hg)
  clear hgs hg
  have hwst:=hGb.out.size
  have hlw:=(Array.getElem?_eq_some_iff.1 HB.out).1
  replace HX1:=zhi (z0J (G:=fun k=>w.heap.size<k∧k<wt.heap.size) HX1.out (fun k hk=>⟨⟨hk.1,by omega⟩,hk.2,by omega⟩) hGb.out)
  clear hlw hwst
  go_wp2_with fail
  refine (z1E _ _ _ _ _ _).mono ?_
  rintro e w5 ⟨rfl,hb5⟩
  have hlw:=(Array.getElem?_eq_some_iff.1 HB.out).1
  have hblk:=(hb5.block wt.heap.size (by simp)).trans (heap_alloc_new wt _)
  have hlow:=z0b ((Below.refl _ wt).alloc (Nat.le_refl _) _) hb5
  have hsz:=hb5.size
  have HX:Hid (ExV (fun k=>w.heap.size<k∧k<w5.heap.size) w5 (d+2) (.mk 6 (3+(q2:Int)) 0 0 ⟨#[]⟩ [x,y]) (.agg #[.int .i64 6,.int .i64 (3+(q2:Int)),.int .i64 0,.int .i64 0,.string ⟨#[]⟩,.slice (some ⟨wt.heap.size,0,none⟩) 2 2])):=zhi ⟨_,_,rfl,z2h (z0W HX1.out (fun k hk=>⟨⟨hk.1,Nat.lt_of_lt_of_le hk.2 hlow.size⟩,hk.2⟩) hlow) (z0W HX2.out (fun k hk=>⟨⟨hk.1,Nat.lt_of_lt_of_le hk.2 hlow.size⟩,hk.2⟩) hlow) ⟨hlw,by simp at hsz; omega⟩ hblk⟩
  have HGE:Hid (GX E (d+1) (.mk 6 (3+(q2:Int)) 0 0 ⟨#[]⟩ [x,y])):=zhi (z4x HG1.out HG2.out ⟨by omega,by omega⟩ (.inl ⟨rfl,by omega⟩))
  clear hb5 hblk
  replace Hgs1:=zhi (Hgs1.out.below hlow)
  replace HB:=zhi ((hlow.block _ hlw).trans HB.out)
  replace Hg01:=zhi (Hg01.out.trans (z02 hlow (some g)))
  have HF:Hid (∀ k,(w.heap.size<k∧k<(World.heap w5).size)→w.heap.size<k∧k<(World.heap w5).size):=zhi (fun k hk=>hk)
  clear hlow hlw hsz
  go_wp2_with (with_reducible refine z01 ?_)
  refine z08.of (z00 _ rfl _ _ _ rfl w.heap.size _ rfl (by rfl) _ _ HB.out (by kernel_rfl) (by rfl) (by simp [Value.oneCell']) ?_)
  intro w9 hrow hg9
  have H2:=Hgs.out.own Hgs1.out Hg01.out (Nat.le_refl _) hg9
  have HY:=zhi (z16 HX.out HF.out hg9)
  obtain ⟨k0,k1,k2,k3,k4,k5⟩:=cl6 hrow
  have HH:=zhi H2
  clear hrow hg9 H2 HX HF
  go_wp2_with fail
  refine bodyPost_ret ?_ rfl ⟨_,_,rfl,HGE.out,HY.out,HH.out.1,HH.out.2⟩
  simp [results,Try.results64,go_sem,k0,k1,k2,k3,k4,k5]
 ·have hn2:=zhi (z0p 9 9 Hgs1.out rfl (by omega))
  go_wp2_with fail
  refine hn2.out.mono ?_
  rintro e w3 ⟨q2,rfl,hq2,_,hgs3,hg3⟩
  have hq22:=hq2 (by omega)
  clear hn2 hq2
  replace Hgs1:=zhi hgs3
  replace HB:=zhi (z04 hg3 (by omega) HB.out)
  replace Hg01:=zhi (Hg01.out.trans hg3)
  clear hgs3 hg3
  have hih:=zhi (IHE.out _ (z - 1) (by have:=Hz.out; omega) Hgs1.out)
  have hlw:=(Array.getElem?_eq_some_iff.1 HB.out).1
  go_wp2_with fail
  refine hih.out.mono ?_
  rintro e ws ⟨x,v,rfl,hge,hx,hgs,hg⟩
  obtain ⟨k,o,a,lf,s,A,n,c,rfl,_⟩:=z0I hx
  replace hx:=hx.keep (G:=fun k=>w.heap.size<k∧k<(World.heap ws).size) (fun k hk=>⟨by omega,hk.2⟩) (fun _ _=>rfl)
  have HX1:=zhi hx
  have HG1:=zhi hge
  have hGb:=zhi hg
  clear hih hge hx hlw
  replace Hgs1:=zhi hgs
  replace HB:=zhi (z04 hg (by omega) HB.out)
  replace Hg01:=zhi (Hg01.out.trans hg)
  clear hgs hg
  have hih:=zhi (IHE.out _ (z - 1) (by have:=Hz.out; omega) Hgs1.out)
  have hlw:=(Array.getElem?_eq_some_iff.1 HB.out).1
  go_wp2_with fail
  refine hih.out.mono ?_
  rintro e wt ⟨y,v,rfl,hge,hx,hgs,hg⟩
  obtain ⟨k',o',a',lf',s',A',n',c',rfl,_⟩:=z0I hx
  replace hx:=hx.keep (G:=fun k=>w.heap.size<k∧k<(World.heap wt).size) (fun k hk=>⟨by omega,hk.2⟩) (fun _ _=>rfl)
  have HX2:=zhi hx
  have HG2:=zhi hge
  have hGb:=zhi hg
  clear hih hge hx hlw
  replace Hgs1:=zhi hgs
  replace HB:=zhi (z04 hg (by omega) HB.out)
  replace Hg01:=zhi (Hg01.out.trans hg)
  clear hgs hg
  have hwst:=hGb.out.size
  have hlw:=(Array.getElem?_eq_some_iff.1 HB.out).1
  replace HX1:=zhi (z0J (G:=fun k=>w.heap.size<k∧k<wt.heap.size) HX1.out (fun k hk=>⟨⟨hk.1,by omega⟩,hk.2,by omega⟩) hGb.out)
  clear hlw hwst
  go_wp2_with fail
  refine (z1E _ _ _ _ _ _).mono ?_
  rintro e w5 ⟨rfl,hb5⟩
  have hlw:=(Array.getElem?_eq_some_iff.1 HB.out).1
  have hblk:=(hb5.block wt.heap.size (by simp)).trans (heap_alloc_new wt _)
  have hlow:=z0b ((Below.refl _ wt).alloc (Nat.le_refl _) _) hb5
  have hsz:=hb5.size
  have HX:Hid (ExV (fun k=>w.heap.size<k∧k<w5.heap.size) w5 (d+2) (.mk 6 (3+(q2:Int)) 0 0 ⟨#[]⟩ [x,y]) (.agg #[.int .i64 6,.int .i64 (3+(q2:Int)),.int .i64 0,.int .i64 0,.string ⟨#[]⟩,.slice (some ⟨wt.heap.size,0,none⟩) 2 2])):=zhi ⟨_,_,rfl,z2h (z0W HX1.out (fun k hk=>⟨⟨hk.1,Nat.lt_of_lt_of_le hk.2 hlow.size⟩,hk.2⟩) hlow) (z0W HX2.out (fun k hk=>⟨⟨hk.1,Nat.lt_of_lt_of_le hk.2 hlow.size⟩,hk.2⟩) hlow) ⟨hlw,by simp at hsz; omega⟩ hblk⟩
  have HGE:Hid (GX E (d+1) (.mk 6 (3+(q2:Int)) 0 0 ⟨#[]⟩ [x,y])):=zhi (z4x HG1.out HG2.out ⟨by omega,by omega⟩ (.inl ⟨rfl,by omega⟩))
  clear hb5 hblk
  replace Hgs1:=zhi (Hgs1.out.below hlow)
  replace HB:=zhi ((hlow.block _ hlw).trans HB.out)
  replace Hg01:=zhi (Hg01.out.trans (z02 hlow (some g)))
  have HF:Hid (∀ k,(w.heap.size<k∧k<(World.heap w5).size)→w.heap.size<k∧k<(World.heap w5).size):=zhi (fun k hk=>hk)
  clear hlow hlw hsz
  go_wp2_with (with_reducible refine z01 ?_)
  refine z08.of (z00 _ rfl _ _ _ rfl w.heap.size _ rfl (by rfl) _ _ HB.out (by kernel_rfl) (by rfl) (by simp [Value.oneCell']) ?_)
  intro w9 hrow hg9
  have H2:=Hgs.out.own Hgs1.out Hg01.out (Nat.le_refl _) hg9
  have HY:=zhi (z16 HX.out HF.out hg9)
  obtain ⟨k0,k1,k2,k3,k4,k5⟩:=cl6 hrow
  have HH:=zhi H2
  clear hrow hg9 H2 HX HF
  go_wp2_with fail
  refine bodyPost_ret ?_ rfl ⟨_,_,rfl,HGE.out,HY.out,HH.out.1,HH.out.2⟩
  simp [results,Try.results64,go_sem,k0,k1,k2,k3,k4,k5]
 ·have hn2:=zhi (z0p 9 9 Hgs1.out rfl (by omega))
  go_wp2_with fail
  refine hn2.out.mono ?_
  rintro e w3 ⟨q2,rfl,hq2,_,hgs3,hg3⟩
  have hq22:=hq2 (by omega)
  clear hn2 hq2
  replace Hgs1:=zhi hgs3
  replace HB:=zhi (z04 hg3 (by omega) HB.out)
  replace Hg01:=zhi (Hg01.out.trans hg3)
  clear hgs3 hg3
  have hih:=zhi (IHE.out _ (z - 1) (by have:=Hz.out; omega) Hgs1.out)
  have hlw:=(Array.getElem?_eq_some_iff.1 HB.out).1
  go_wp2_with fail
  refine hih.out.mono ?_
  rintro e ws ⟨x,v,rfl,hge,hx,hgs,hg⟩
  obtain ⟨k,o,a,lf,s,A,n,c,rfl,_⟩:=z0I hx
  replace hx:=hx.keep (G:=fun k=>w.heap.size<k∧k<(World.heap ws).size) (fun k hk=>⟨by omega,hk.2⟩) (fun _ _=>rfl)
  have HX1:=zhi hx
  have HG1:=zhi hge
  have hGb:=zhi hg
  clear hih hge hx hlw
  replace Hgs1:=zhi hgs
  replace HB:=zhi (z04 hg (by omega) HB.out)
  replace Hg01:=zhi (Hg01.out.trans hg)
  clear hgs hg
  have hih:=zhi (IHE.out _ (z - 1) (by have:=Hz.out; omega) Hgs1.out)
  have hlw:=(Array.getElem?_eq_some_iff.1 HB.out).1
  go_wp2_with fail
  refine hih.out.mono ?_
  rintro e wt ⟨y,v,rfl,hge,hx,hgs,hg⟩
  obtain ⟨k',o',a',lf',s',A',n',c',rfl,_⟩:=z0I hx
  replace hx:=hx.keep (G:=fun k=>w.heap.size<k∧k<(World.heap wt).size) (fun k hk=>⟨by omega,hk.2⟩) (fun _ _=>rfl)
  have HX2:=zhi hx
  have HG2:=zhi hge
  have hGb:=zhi hg
  clear hih hge hx hlw
  replace Hgs1:=zhi hgs
  replace HB:=zhi (z04 hg (by omega) HB.out)
  replace Hg01:=zhi (Hg01.out.trans hg)
  clear hgs hg
  have hwst:=hGb.out.size
  have hlw:=(Array.getElem?_eq_some_iff.1 HB.out).1
  replace HX1:=zhi (z0J (G:=fun k=>w.heap.size<k∧k<wt.heap.size) HX1.out (fun k hk=>⟨⟨hk.1,by omega⟩,hk.2,by omega⟩) hGb.out)
  clear hlw hwst
  go_wp2_with fail
  refine (z1E _ _ _ _ _ _).mono ?_
  rintro e w5 ⟨rfl,hb5⟩
  have hlw:=(Array.getElem?_eq_some_iff.1 HB.out).1
  have hblk:=(hb5.block wt.heap.size (by simp)).trans (heap_alloc_new wt _)
  have hlow:=z0b ((Below.refl _ wt).alloc (Nat.le_refl _) _) hb5
  have hsz:=hb5.size
  have HX:Hid (ExV (fun k=>w.heap.size<k∧k<w5.heap.size) w5 (d+2) (.mk 6 (3+(q2:Int)) 0 0 ⟨#[]⟩ [x,y]) (.agg #[.int .i64 6,.int .i64 (3+(q2:Int)),.int .i64 0,.int .i64 0,.string ⟨#[]⟩,.slice (some ⟨wt.heap.size,0,none⟩) 2 2])):=zhi ⟨_,_,rfl,z2h (z0W HX1.out (fun k hk=>⟨⟨hk.1,Nat.lt_of_lt_of_le hk.2 hlow.size⟩,hk.2⟩) hlow) (z0W HX2.out (fun k hk=>⟨⟨hk.1,Nat.lt_of_lt_of_le hk.2 hlow.size⟩,hk.2⟩) hlow) ⟨hlw,by simp at hsz; omega⟩ hblk⟩
  have HGE:Hid (GX E (d+1) (.mk 6 (3+(q2:Int)) 0 0 ⟨#[]⟩ [x,y])):=zhi (z4x HG1.out HG2.out ⟨by omega,by omega⟩ (.inl ⟨rfl,by omega⟩))
  clear hb5 hblk
  replace Hgs1:=zhi (Hgs1.out.below hlow)
  replace HB:=zhi ((hlow.block _ hlw).trans HB.out)
  replace Hg01:=zhi (Hg01.out.trans (z02 hlow (some g)))
  have HF:Hid (∀ k,(w.heap.size<k∧k<(World.heap w5).size)→w.heap.size<k∧k<(World.heap w5).size):=zhi (fun k hk=>hk)
  clear hlow hlw hsz
  go_wp2_with (with_reducible refine z01 ?_)
  refine z08.of (z00 _ rfl _ _ _ rfl w.heap.size _ rfl (by rfl) _ _ HB.out (by kernel_rfl) (by rfl) (by simp [Value.oneCell']) ?_)
  intro w9 hrow hg9
  have H2:=Hgs.out.own Hgs1.out Hg01.out (Nat.le_refl _) hg9
  have HY:=zhi (z16 HX.out HF.out hg9)
  obtain ⟨k0,k1,k2,k3,k4,k5⟩:=cl6 hrow
  have HH:=zhi H2
  clear hrow hg9 H2 HX HF
  go_wp2_with fail
  refine bodyPost_ret ?_ rfl ⟨_,_,rfl,HGE.out,HY.out,HH.out.1,HH.out.2⟩
  simp [results,Try.results64,go_sem,k0,k1,k2,k3,k4,k5]
end Go.Proofs.Ytleicdfkagejoaa
