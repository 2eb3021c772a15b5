/-
  Lg: PwL. Walks and laws that the statement's proof is made of. No condition of its own.
-/
import Derived.Test.YtkeihncfmbicnaaGreatDoorLf
import Derived.Test.YtkeihncfmbicnaaGreatDoorLe
import Derived.Test.YtkeihncfmbicnaaGreatDoorKme
import Derived.Test.YtkeihncfmbicnaaGreatDoorKla
import Derived.Test.YtkeihncfmbicnaaGreatDoorKr
import Derived.Test.YtkeihncfmbicnaaGreatDoorKy
import Derived.Stop.LaidErr
namespace Go.Proofs.YtkeihncfmbicnaaGreatDoor
open Go.RowKit
theorem powT_laid3 {W : World} (h : laidMet Tryz.prog [("math/bits.deBruijn32tab", Rows.laid_math_bits_deBruijn32tab), ("math/bits.deBruijn64tab", Rows.laid_math_bits_deBruijn64tab), ("internal/strconv.uint64pow10", Rows.laid_internal_strconv_uint64pow10)] W) : PowT W := by
 have h2:=h.tail.tail
 rw [zbs] at h2
 exact Lib.tabIs_of_head gTab zaE Tryz.underlying147 Tryz.underlying139 (by kernel_rfl) (by kernel_rfl) h2
def z4a:DataW Unit→Array Value
 | .agg ds=>(ds.map fun | .lit (.int k x)=>Value.int k x | _=>undef).toArray
 | _=>#[]
noncomputable def laidWorld3 (os:Os):World :=
 let w0:=World.holding Tryz.prog os ⟨#[],#[],[]⟩
 let put (h:Array Obj) (g:Nat) (cs:Array Value):Array Obj:=h.modify g fun
   | .cells _ t frozen=>.cells cs t frozen
   | o=>o
 { w0 with heap:=put (put (put w0.heap 0 (z4a Rows.laid_internal_strconv_uint64pow10)) 2 (z4a Rows.laid_math_bits_deBruijn32tab)) 3 (z4a Rows.laid_math_bits_deBruijn64tab) }
set_option maxRecDepth 100000 in
set_option maxHeartbeats 2000000 in
theorem pw_far (A0:Option Addr) (m c0:Nat) (s:ByteArray) (w:World) (ht:PowT w) (hs:300<s.size) (_:s.size≤maxLen) :
  Calls Tryz.prog 3 #[.slice A0 m c0,.string s] w fun e w'=>e=.returned (.bool true)∧Below w.heap.size w w':=by
 have ha:=zhi (z8i w ht)
 clear ht
 go_enter Tryz.func3,Tryz.ntmps3
 go_wp2_with fail
 refine ha.out.mono ?_
 rintro e w1 ⟨rfl,hb1⟩
 have Hb1:=zhi hb1
 clear ha hb1
 have i1:(300<(s.size:Int))=True:=by simp; omega
 go_wp2_with fail
 go_ret
 exact ⟨rfl,Hb1.out⟩
set_option maxRecDepth 100000 in
set_option maxHeartbeats 4000000 in
theorem pw_near (A0:Option Addr) (codes:List Nat) (m c0:Nat) (s:ByteArray) (w:World) (ht:PowT w) (hm:codes.length=m) (hmc:m≤c0) (hr:Rd w A0 (codes.map bv)) (hcs:∀ x∈codes,x<256) (hs:s.size≤300) :
  Calls Tryz.prog 3 #[.slice A0 m c0,.string s] w fun e w'=>e=.returned (.bool true)∧Below w.heap.size w w':=by
 have ha:=zhi (z8i w ht)
 have Ht:=zhi ht
 have Hm:=zhi hm
 have Hr:=zhi hr
 have Hcs:=zhi hcs
 have htt:=ht.lt
 clear hm hr hcs ht
 have i1:(300<(s.size:Int))=False:=by simp; omega
 go_enter Tryz.func3,Tryz.ntmps3
 go_wp2_with fail
 refine ha.out.mono ?_
 rintro e w1 ⟨rfl,hb1⟩
 have hn:=zhi (zcG A0 codes m c0 400 w1 Hm.out hmc (Hr.out.below hb1) (by decide))
 have Ht1:=zhi (Ht.out.low hb1)
 have Hb1:=zhi hb1
 clear ha hb1 Hr Hm
 go_wp2_with fail
 refine hn.out.mono ?_
 rintro e w2 ⟨g,cs,rfl,hg,hlen,rfl,hc2,hb2⟩
 have Hcl:Hid (∀ x∈codes.take 400,x<256):=zhi (fun x hx=>Hcs.out x (List.mem_of_mem_take hx))
 generalize codes.take 400=cs at *
 have hgw:w.heap.size≤g:=Nat.le_trans Hb1.out.size hg
 have hg2:g<w2.heap.size:=z2F hc2
 have hx:=zhi (z6E g cs w2 ⟨0,hc2⟩ (by omega) Hcl.out)
 have Ht2:=zhi (Ht1.out.low hb2)
 have Hb2:=zhi (z02 Hb1.out hb2)
 have hw12:=hb2.size
 clear hn hb2 hc2 Hcs Ht1 Hb1
 go_wp2_with fail
 refine hx.out.mono ?_
 rintro e w3 ⟨gl,fns,gA,fA,gc,fc,⟨rfl,hG,hF,hgg,hgf,h4,h1,hf4,hco,hgr⟩,hsc⟩
 have Hok:=zhi (zaZ hsc hgf h4 h1 hf4)
 obtain ⟨n,hn⟩:∃ n,gl.length=n:=⟨_,rfl⟩
 obtain ⟨f,hf⟩:∃ f,fns.length=f:=⟨_,rfl⟩
 rw [hn] at h4 ⊢
 rw [hf] at h1 hf4 ⊢
 have hsz3:=hgr.size
 have hb4:=(Below.refl _ w3).alloc (Nat.le_refl _) (.cells #[.slice gA n gc,.slice fA f fc] 29)
 have HR4:=zhi (heap_alloc_new w3 (.cells #[.slice gA n gc,.slice fA f fc] 29))
 have HG4:=zhi (hG.keepR (fun _ h=>h) (fun q hq=>hb4.block q hq.2))
 have HF4:=zhi (hF.keepR (fun _ h=>h) (fun q hq=>hb4.block q hq.2))
 have Ht4:=zhi ((Ht2.out.gp hgr (by omega)).low hb4)
 have Hb4:=zhi (z02 (zap Hb2.out hgr hgw) hb4)
 have hsz4:=hb4.size
 have Hn:=zhi hn
 have Hf:=zhi hf
 have hln:(fmtP 3 3 gl fns).length≤65536:=zaD (d:=2) (by omega) hgg hgf (by omega) (by omega)
 have hlq:(fmtP 4 3 gl (fns.map (rsFn gl fns))).length≤1000000:=zec hgg hgf (by omega) (by omega)
 have HSp:=zhi (fun x hx=>zdG (hgf x hx))
 have HSq:Hid (∀ x∈fns.map (rsFn gl fns),ShFq 4 3 x∧ShF 4 3 x):=zhi (fun x hx=>by
  obtain ⟨y,hm,rfl⟩:=List.mem_map.1 hx
  exact zcS (hgf y hm))
 have HGl:Hid (∀ x∈gl,x.1.size≤1000∧0≤x.2∧x.2<9223372036854775808):=zhi (fun x hx=>by have h:=hgg x hx; exact ⟨by have:=h.1.1; omega,h.2.1,by have:=h.2.2; omega⟩)
 clear hx hG hF hgg hgf hco hgr hb4 hn hf Ht2 Hb2 hsc
 obtain ⟨w4,hw4⟩:∃ w4,w3.alloc (.cells #[.slice gA n gc,.slice fA f fc] 29)=w4:=⟨_,rfl⟩
 rw [hw4] at HR4 HG4 HF4 Ht4 Hb4 hsz4
 have hrs:=zhi (z9H gl fns gA n gc fA f fc w4 Hn.out Hf.out HG4.out HF4.out (fun q hq=>by omega) Hok.out)
 obtain ⟨c0,c1⟩:=cl2 HR4.out
 go_upto_region 5 with fail
 clear hw4
 obtain ⟨pb,hpb⟩:∃ pb,w3.heap.size=pb:=⟨_,rfl⟩
 rw [hpb] at HR4 c0 c1 ⊢
 go_wp2_with fail
 refine hrs.out.mono ?_
 rintro e w5 ⟨gB,gc2,fB,fc2,rfl,hG5,hF5,hb5⟩
 have hfm:(fns.map (rsFn gl fns)).length=f:=by rw [List.length_map]; exact Hf.out
 have HFm:=zhi hfm
 rw [Hn.out,Hf.out]
 have hb6:=(Below.refl _ w5).alloc (Nat.le_refl _) (.cells #[.slice gB n gc2,.slice fB f fc2] 29)
 have hr6:=heap_alloc_new w5 (.cells #[.slice gB n gc2,.slice fB f fc2] 29)
 have hb46:=z02 hb5 hb6
 have hl4:=(Array.getElem?_eq_some_iff.1 HR4.out).1
 have hr4:=(hb46.block pb hl4).trans HR4.out
 have hs45:=hb5.size
 have HG6:=zhi (hG5.keepR (fun _ h=>h) (fun q hq=>hb6.block q hq.2))
 have HF6:=zhi (hF5.keepR (fun _ h=>h) (fun q hq=>hb6.block q hq.2))
 have HP6:=zhi (HG4.out.keepR (fun _ h=>h) (fun q hq=>hb46.block q (by omega)))
 have HQ6:=zhi (HF4.out.keepR (fun _ h=>h) (fun q hq=>hb46.block q (by omega)))
 have Ht6:=zhi ((Ht4.out.low hb5).low hb6)
 have Hb6:=zhi (z02 (z02 Hb4.out hb5) hb6)
 obtain ⟨w6,hw6⟩:∃ w6,w5.alloc (.cells #[.slice gB n gc2,.slice fB f fc2] 29)=w6:=⟨_,rfl⟩
 rw [hw6] at hb6 hr6 hr4 HG6 HF6 HP6 HQ6 Ht6 Hb6 hb46
 have hs56:=hb6.size
 have HR4b:=zhi hr4
 have HR6:=zhi hr6
 clear c0 c1
 obtain ⟨c0,c1⟩:=cl2 hr4
 obtain ⟨e0,e1⟩:=cl2 hr6
 have HK1:=zhi (fun V (hV:Below w6.heap.size w6 V)=>z4t gl fns gA fA gc fc n f V (HP6.out.keepR (fun _ h=>h) (fun q hq=>hV.block q (by omega))) (HQ6.out.keepR (fun _ h=>h) (fun q hq=>hV.block q (by omega))) Hn.out Hf.out (fun q hq=>by have:=hV.size; omega) (Ht6.out.low hV) (Ht6.out.low hV).lt HGl.out (fun x hx=>(HSp.out x hx).1) (by omega) (by omega) (by omega) (by omega))
 have HK2:=zhi (fun V (hV:Below w6.heap.size w6 V)=>by
  have h:=z6U 3 3 _ gl fns gA fA gc fc V (HP6.out.keepR (fun _ h=>h) (fun q hq=>hV.block q (by omega))) (HQ6.out.keepR (fun _ h=>h) (fun q hq=>hV.block q (by omega))) (fun x hx=>⟨(HGl.out x hx).1,(HGl.out x hx).2.2⟩) (fun x hx=>(HSp.out x hx).2) (by have:=Hn.out; omega) (by have:=Hf.out; omega) (by omega) (by omega)
  rw [Hn.out,Hf.out] at h
  exact h)
 have HK3:=zhi (fun V (hV:Below w6.heap.size w6 V)=>z4t (D:=4) (d:=3) gl (fns.map (rsFn gl fns)) gB fB gc2 fc2 n f V (HG6.out.keepR (fun _ h=>h) (fun q hq=>hV.block q (by omega))) (HF6.out.keepR (fun _ h=>h) (fun q hq=>hV.block q (by omega))) Hn.out HFm.out (fun q hq=>by have:=hV.size; omega) (Ht6.out.low hV) (Ht6.out.low hV).lt HGl.out (fun x hx=>(HSq.out x hx).1) (by omega) (by omega) (by omega) (by omega))
 have HK4:=zhi (fun V (hV:Below w6.heap.size w6 V)=>by
  have h:=z6U 4 3 _ gl (fns.map (rsFn gl fns)) gB fB gc2 fc2 V (HG6.out.keepR (fun _ h=>h) (fun q hq=>hV.block q (by omega))) (HF6.out.keepR (fun _ h=>h) (fun q hq=>hV.block q (by omega))) (fun x hx=>⟨(HGl.out x hx).1,(HGl.out x hx).2.2⟩) (fun x hx=>(HSq.out x hx).2) (by have:=Hn.out; omega) (by have:=HFm.out; omega) (by omega) (by omega)
  rw [Hn.out,HFm.out] at h
  exact h)
 obtain ⟨qb,hqb⟩:∃ qb,w5.heap.size=qb:=⟨_,rfl⟩
 rw [hqb] at HR6 e0 e1
 have Hl4:=zhi hl4
 clear hrs hG5 hF5 hb5 hb6 hr6 hb46 hr4 hfm HG4 HF4 HR4 Hb4 Ht4
 go_upto_region 6 with fail
 clear hw6 hqb
 have hS0:w6.drew.cell? ⟨pb,0,none⟩=some (.slice gA n gc)∧w6.drew.cell? ⟨pb,1,none⟩=some (.slice fA f fc)∧w6.drew.cell? ⟨qb,0,none⟩=some (.slice gB n gc2)∧w6.drew.cell? ⟨qb,1,none⟩=some (.slice fB f fc2)∧Below w6.heap.size w6 w6.drew:=⟨c0,c1,e0,e1,(Below.refl _ _).drew⟩
 have HS0:=zhi hS0
 clear hS0 c0 c1 e0 e1
 go_region_held3 (fun w'=>w'.cell? ⟨pb,0,none⟩=some (.slice gA n gc)∧w'.cell? ⟨pb,1,none⟩=some (.slice fA f fc)∧w'.cell? ⟨qb,0,none⟩=some (.slice gB n gc2)∧w'.cell? ⟨qb,1,none⟩=some (.slice fB f fc2)∧Below w6.heap.size w6 w')
  (first | (with_reducible exact HS0.out) | (with_reducible exact HS1.out) | (with_reducible exact HS2.out) | (with_reducible exact HS3.out) | (with_reducible exact HS4.out))
  (first
   | (go_at_call 8; (with_reducible refine (HK1.out _ HS0.out.2.2.2.2).mono ?_); rintro e w7 ⟨s1,rfl,hs1,hb7⟩; have HS1:=zhi (And.intro (hold hb7 HS0.out.1) (And.intro (hold hb7 HS0.out.2.1) (And.intro (hold hb7 HS0.out.2.2.1) (And.intro (hold hb7 HS0.out.2.2.2.1) (z02 HS0.out.2.2.2.2 hb7))))); clear hb7)
   | (go_at_call 9; (with_reducible refine (HK2.out _ HS1.out.2.2.2.2).mono ?_); rintro e w8 ⟨t1,rfl,ht1,hb8⟩; obtain rfl:t1=s1:=z19 (ht1.out.trans hs1.out.symm); have HS2:=zhi (And.intro (hold hb8 HS1.out.1) (And.intro (hold hb8 HS1.out.2.1) (And.intro (hold hb8 HS1.out.2.2.1) (And.intro (hold hb8 HS1.out.2.2.2.1) (z02 HS1.out.2.2.2.2 hb8))))); clear hb8)
   | (go_at_call 8; (with_reducible refine (HK3.out _ HS2.out.2.2.2.2).mono ?_); rintro e w9 ⟨s2,rfl,hs2,hb9⟩; have HS3:=zhi (And.intro (hold hb9 HS2.out.1) (And.intro (hold hb9 HS2.out.2.1) (And.intro (hold hb9 HS2.out.2.2.1) (And.intro (hold hb9 HS2.out.2.2.2.1) (z02 HS2.out.2.2.2.2 hb9))))); clear hb9)
   | (go_at_call 9; (with_reducible refine (HK4.out _ HS3.out.2.2.2.2).mono ?_); rintro e w10 ⟨t2,rfl,ht2,hb10⟩; obtain rfl:t2=s2:=z19 (ht2.out.trans hs2.out.symm); have HS4:=zhi (And.intro (hold hb10 HS3.out.1) (And.intro (hold hb10 HS3.out.2.1) (And.intro (hold hb10 HS3.out.2.2.1) (And.intro (hold hb10 HS3.out.2.2.2.1) (z02 HS3.out.2.2.2.2 hb10))))); clear hb10))
 have HB10:=zhi (z02 Hb6.out HS4.out.2.2.2.2)
 have Ht10:=zhi (Ht6.out.low HS4.out.2.2.2.2)
 clear HS0 HS1 HS2 HS3 HS4 HK1 HK2 HK3 HK4
 have hxl:s.data.toList.length=s.size:=by simp
 have HC0:=zhi (z3Z s w10 (by omega))
 clear hs1 hs2 ht1 ht2 HSp HSq HGl Hok Hn Hf HFm HG6 HF6 HP6 HQ6 HR4b HR6 Hl4 Ht6 Hb6 hln hlq Hcl
 cases hm:z2B s.data.toList with
 | error pr =>
  obtain ⟨en,ec⟩:=pr
  have hec:=zaU hm
  rw [hm] at HC0
  clear hm hxl
  go_wp2_with fail
  refine HC0.out.mono ?_
  rintro e w11 ⟨d8,k8,o8,a8,l8,nm8,A8,n8,c8,rfl,hx8,hb8⟩
  have hb9:=(Below.refl _ w11).alloc (Nat.le_refl _) (.cells #[.int .i64 k8,.int .i64 o8,.int .i64 a8,.int .i64 l8,.string nm8,.slice A8 n8 c8] 37)
  have HB9:=zhi (z02 (z02 HB10.out hb8) hb9)
  have hr8:=heap_alloc_new w11 (.cells #[.int .i64 k8,.int .i64 o8,.int .i64 a8,.int .i64 l8,.string nm8,.slice A8 n8 c8] 37)
  obtain ⟨j0,j1,j2,j3,j4,j5⟩:=cl6 hr8
  have hl0:lnX (Except.error (en,ec):Except (Nat × Nat) Ex)=en:=rfl
  have hc0:cdX (Except.error (en,ec):Except (Nat × Nat) Ex)=ec:=rfl
  rw [hl0,hc0]
  obtain ⟨w12,hw12⟩:∃ w12,w11.alloc (.cells #[.int .i64 k8,.int .i64 o8,.int .i64 a8,.int .i64 l8,.string nm8,.slice A8 n8 c8] 37)=w12:=⟨_,rfl⟩
  rw [hw12] at HB9 j0 j1 j2 j3 j4 j5
  obtain ⟨xb,hxb⟩:∃ xb,w11.heap.size=xb:=⟨_,rfl⟩
  rw [hxb] at j0 j1 j2 j3 j4 j5
  clear HC0 hx8 hb8 hb9 HB10 Ht10 hl0 hc0 hr8
  rcases hec with rfl | rfl
  all_goals
   go_upto_region 9 with fail
   clear hw12 hxb
   go_region_law fail
   all_goals
    dsimp only [Exit.then,Exit.inBlock]
    go_wp2_with fail
    go_ret
    exact ⟨rfl,HB9.out.drew⟩
 | ok y =>
  have hwf:=zcF hm
  rw [hm] at HC0
  have hnd:ndX y≤301:=by omega
  have HWF:=zhi hwf.1
  clear hm hxl hwf
  go_wp2_with fail
  refine HC0.out.mono ?_
  rintro e w11 ⟨d8,k8,o8,a8,l8,nm8,A8,n8,c8,rfl,hx8,hb8⟩
  have hx9:ExV (fun q=>w10.heap.size≤q∧q<w11.heap.size) w11 d8 y (.agg #[.int .i64 k8,.int .i64 o8,.int .i64 a8,.int .i64 l8,.string nm8,.slice A8 n8 c8]):=hx8.out
  have hd8:=zcl hx9
  have hb9:=(Below.refl _ w11).alloc (Nat.le_refl _) (.cells #[.int .i64 k8,.int .i64 o8,.int .i64 a8,.int .i64 l8,.string nm8,.slice A8 n8 c8] 37)
  have hr8:=heap_alloc_new w11 (.cells #[.int .i64 k8,.int .i64 o8,.int .i64 a8,.int .i64 l8,.string nm8,.slice A8 n8 c8] 37)
  have hbw:=z02 hb8 hb9
  have hfl:=zcr HWF.out d8 hd8
  have hsp:=zc1 HWF.out d8 hd8 (by omega)
  have hb12:=z02 HB10.out hbw
  have Ht12:=zhi (Ht10.out.low hbw)
  have hx12:=hx9.keep (G:=fun q=>w10.heap.size≤q∧q<w11.heap.size) (fun _ h=>h) (fun q hq=>hb9.block q hq.2)
  have hs9:=hb9.size
  obtain ⟨j0,j1,j2,j3,j4,j5⟩:=cl6 hr8
  obtain ⟨w12,hw12⟩:∃ w12,w11.alloc (.cells #[.int .i64 k8,.int .i64 o8,.int .i64 a8,.int .i64 l8,.string nm8,.slice A8 n8 c8] 37)=w12:=⟨_,rfl⟩
  rw [hw12] at hb12 Ht12 hx12 hs9 j0 j1 j2 j3 j4 j5
  have HE1:=zhi (fun V (hV:Below w12.heap.size w12 V)=>z3b (fun q=>w10.heap.size≤q∧q<w11.heap.size) d8 y k8 o8 a8 l8 nm8 A8 n8 c8 V (hx12.keep (fun _ h=>h) (fun q hq=>hV.block q (by omega))) (fun q hq=>by have:=hV.size; omega) hsp (Ht12.out.low hV) (Ht12.out.low hV).lt (by omega) (zdC HWF.out hd8))
  have HE2:=zhi (fun V (hV:Below w12.heap.size w12 V)=>z8v d8 (fun q=>w10.heap.size≤q∧q<w11.heap.size) y _ V (hx12.keep (fun _ h=>h) (fun q hq=>hV.block q (by omega))) (z6C d8 y hsp) (by omega))
  have HB12:=zhi hb12
  have hc0:cdX (.ok y)=0:=rfl
  have hl0:lnX (.ok y)=0:=rfl
  rw [hc0,hl0]
  obtain ⟨xb,hxb⟩:∃ xb,w11.heap.size=xb:=⟨_,rfl⟩
  rw [hxb] at j0 j1 j2 j3 j4 j5
  clear HC0 hx8 hx9 hd8 hb8 hb9 hr8 hbw hc0 hl0 hsp hb12 hx12 Ht10 HB10
  go_upto_region 9 with fail
  clear hw12 hxb
  have hS0:w12.drew.cell? ⟨xb,0,none⟩=some (.int .i64 k8)∧w12.drew.cell? ⟨xb,1,none⟩=some (.int .i64 o8)∧w12.drew.cell? ⟨xb,2,none⟩=some (.int .i64 a8)∧w12.drew.cell? ⟨xb,3,none⟩=some (.int .i64 l8)∧w12.drew.cell? ⟨xb,4,none⟩=some (.string nm8)∧w12.drew.cell? ⟨xb,5,none⟩=some (.slice A8 n8 c8)∧Below w12.heap.size w12 w12.drew:=⟨j0,j1,j2,j3,j4,j5,(Below.refl _ _).drew⟩
  have HS0:=zhi hS0
  clear hS0 j0 j1 j2 j3 j4 j5
  go_region_held3 (fun w'=>w'.cell? ⟨xb,0,none⟩=some (.int .i64 k8)∧w'.cell? ⟨xb,1,none⟩=some (.int .i64 o8)∧w'.cell? ⟨xb,2,none⟩=some (.int .i64 a8)∧w'.cell? ⟨xb,3,none⟩=some (.int .i64 l8)∧w'.cell? ⟨xb,4,none⟩=some (.string nm8)∧w'.cell? ⟨xb,5,none⟩=some (.slice A8 n8 c8)∧Below w12.heap.size w12 w')
   (first | (with_reducible exact HS0.out) | (with_reducible exact HS1.out) | (with_reducible exact HS2.out))
   (first
    | (go_at_call 11; (with_reducible refine (HE1.out _ HS0.out.2.2.2.2.2.2).mono ?_); rintro e w13 ⟨s1,rfl,hs1,hb13⟩; have HS1:=zhi (And.intro (hold hb13 HS0.out.1) (And.intro (hold hb13 HS0.out.2.1) (And.intro (hold hb13 HS0.out.2.2.1) (And.intro (hold hb13 HS0.out.2.2.2.1) (And.intro (hold hb13 HS0.out.2.2.2.2.1) (And.intro (hold hb13 HS0.out.2.2.2.2.2.1) (z02 HS0.out.2.2.2.2.2.2 hb13))))))); clear hb13)
    | (go_at_call 12; (with_reducible refine (HE2.out _ HS1.out.2.2.2.2.2.2).mono ?_); rintro e w14 ⟨t1,rfl,ht1,hb14⟩; obtain rfl:t1=s1:=z19 (ht1.out.trans hs1.out.symm); have HS2:=zhi (And.intro (hold hb14 HS1.out.1) (And.intro (hold hb14 HS1.out.2.1) (And.intro (hold hb14 HS1.out.2.2.1) (And.intro (hold hb14 HS1.out.2.2.2.1) (And.intro (hold hb14 HS1.out.2.2.2.2.1) (And.intro (hold hb14 HS1.out.2.2.2.2.2.1) (z02 HS1.out.2.2.2.2.2.2 hb14))))))); clear hb14))
  have HEnd:=zhi (z02 HB12.out HS2.out.2.2.2.2.2.2)
  clear HS0 HS1 HS2 HE1 HE2 HB12 Ht12
  dsimp only [Exit.then,Exit.inBlock]
  go_wp2_with fail
  go_ret
  exact ⟨rfl,HEnd.out⟩
end Go.Proofs.YtkeihncfmbicnaaGreatDoor
