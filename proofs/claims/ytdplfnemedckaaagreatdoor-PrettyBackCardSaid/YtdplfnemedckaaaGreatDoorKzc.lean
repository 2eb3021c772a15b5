/-
  Kzc: PbL. Walks and laws that the statement's proof is made of. No condition of its own.
-/
import Derived.Test.YtdplfnemedckaaaGreatDoorKzb
import Derived.Test.YtdplfnemedckaaaGreatDoorKme
import Derived.Test.YtdplfnemedckaaaGreatDoorKl
import Derived.Test.YtdplfnemedckaaaGreatDoorKy
namespace Go.Proofs.YtdplfnemedckaaaGreatDoor
open Go.RowKit
theorem z7Q {gl:Gls} {fl:List Fn} {w w':World} {e:Ending} (h:z3J (.ok (gl,fl)) w e w'):∃ D d gA gc fA fc,e=.returned (.tuple #[.agg #[.slice gA gl.length gc,.slice fA fl.length fc],.int .i64 0,.int .i64 0]) ∧
  RowG 2 MGl (fun q=>w.heap.size≤q∧q<w'.heap.size) w' gl gA gc∧RowG 4 (MFn D d) (fun q=>w.heap.size≤q∧q<w'.heap.size) w' fl fA fc∧Below w.heap.size w w':=h
set_option maxRecDepth 100000 in
set_option maxHeartbeats 4000000 in
theorem back_any (A0:Option Addr) (codes:List Nat) (m c0:Nat) (w:World) (he:Errs w) (ht:PowT w) (hm:codes.length=m) (hmc:m≤c0) (hr:Rd w A0 (codes.map bv)) (hcs:∀ x∈codes,x<256) :
  Calls Tryz.prog 3 #[.slice A0 m c0] w fun e w'=>e=.returned (.bool true)∧Below w.heap.size w w':=by
 have ha:=zhi (zeJ w ht)
 have He:=zhi he
 have Ht:=zhi ht
 have Hm:=zhi hm
 have Hr:=zhi hr
 have Hcs:=zhi hcs
 have het:=he.lt
 have htt:=ht.lt
 clear he hm hr hcs ht
 go_enter Tryz.func3,Tryz.ntmps3
 go_wp2_with fail
 refine ha.out.mono ?_
 rintro e w1 ⟨rfl,hb1⟩
 have hn:=zhi (zfr A0 codes m c0 400 w1 Hm.out hmc (Hr.out.below hb1) (by decide))
 have He1:=zhi (He.out.below hb1)
 have Ht1:=zhi (Ht.out.low hb1)
 have Hb1:=zhi hb1
 clear ha hb1 Hr Hm
 go_wp2_with fail
 refine hn.out.mono ?_
 rintro e w2 ⟨g,cs,rfl,hg,hlen,rfl,hc2,hb2⟩
 have Hcl:Hid (∀ x∈codes.take 400,x<256):=zhi (fun x hx=>Hcs.out x (List.mem_of_mem_take hx))
 generalize codes.take 400=cs at *
 have hgw:w.heap.size≤g:=Nat.le_trans Hb1.out.size hg
 have hg2:g<w2.heap.size:=z3L hc2
 have hx:=zhi (z9T g cs w2 ⟨0,hc2⟩ (by omega) Hcl.out)
 have He2:=zhi (He1.out.below hb2)
 have Ht2:=zhi (Ht1.out.low hb2)
 have Hb2:=zhi (z0d Hb1.out hb2)
 have hw12:=hb2.size
 clear hn hb2 hc2 Hcs He1 Ht1 Hb1
 go_wp2_with fail
 refine hx.out.mono ?_
 rintro e w3 ⟨gl,fns,gA,fA,gc,fc,rfl,hG,hF,hgg,hgf,h4,h1,hf4,hco,hgr⟩
 obtain ⟨n,hn⟩:∃ n,gl.length=n:=⟨_,rfl⟩
 obtain ⟨f,hf⟩:∃ f,fns.length=f:=⟨_,rfl⟩
 rw [hn] at h4 ⊢
 rw [hf] at h1 hf4 ⊢
 have hsz3:=hgr.size
 have hb4:=(Below.refl _ w3).alloc (Nat.le_refl _) (.cells #[.slice gA n gc,.slice fA f fc] 29)
 have HR4:=zhi (heap_alloc_new w3 (.cells #[.slice gA n gc,.slice fA f fc] 29))
 have HG4:=zhi (z28 hG (fun q hq=>hb4.block q hq.2))
 have HF4:=zhi (z27 hF (fun q hq=>hb4.block q hq.2))
 have He4:=zhi ((zeS He2.out hgr (by omega) (by omega)).below hb4)
 have Ht4:=zhi ((Ht2.out.gp hgr (by omega)).low hb4)
 have Hb4:=zhi (z0d (zcG Hb2.out hgr hgw) hb4)
 have hsz4:=hb4.size
 have Hn:=zhi hn
 have Hf:=zhi hf
 have Hgg:=zhi hgg
 have Hgf:=zhi hgf
 have hln:(fmtP 3 3 gl fns).length≤65536:=zcX (d:=2) (by omega) hgg hgf (by omega) (by omega)
 have HSh:=zhi (fun k j=>zaP k j hgf (rfl:fns.map rlF=fns.map rlF))
 have HGl:Hid (∀ x∈gl,x.1.size≤1000∧0≤x.2∧x.2<9223372036854775808):=zhi (fun x hx=>by have h:=hgg x hx; exact ⟨by have:=h.1.1; omega,h.2.1,by have:=h.2.2; omega⟩)
 have HU:=zhi (zeY (d:=2) hgg hgf)
 obtain ⟨w4,hw4⟩:∃ w4,w3.alloc (.cells #[.slice gA n gc,.slice fA f fc] 29)=w4:=⟨_,rfl⟩
 rw [hw4] at HR4 HG4 HF4 He4 Ht4 Hb4 hsz4
 have hfm:=zhi (z5t gl fns gA fA gc fc n f w4 HG4.out HF4.out Hn.out Hf.out (fun q hq=>by omega) Ht4.out Ht4.out.lt HGl.out (fun x hx=>(HSh.out 0 0 x hx).1) (by omega) (by omega) (by omega) (by omega))
 obtain ⟨c0,c1⟩:=cl2 HR4.out
 have HLn:=zhi hln
 clear hx hG hF hgg hgf hco hgr hb4 hn hf He2 Ht2 Hb2 hln
 go_upto_region 5 with fail
 clear hw4
 obtain ⟨pb,hpb⟩:∃ pb,w3.heap.size=pb:=⟨_,rfl⟩
 rw [hpb] at HR4 c0 c1 ⊢
 go_wp2_with fail
 refine hfm.out.mono ?_
 rintro e w5 ⟨s,rfl,hs,hb5⟩
 have hsz:s.size≤65536:=by rw [z0V hs.out]; exact HLn.out
 obtain ⟨us,u1,u2⟩:=zfP (l:=s.data.toList) (ts:=tkP gl fns++[eofT]) (by rw [hs.out]; exact HLn.out) (by rw [hs.out]; exact HU.out)
 obtain ⟨F,hp,hFr⟩:=zdx Hgg.out Hgf.out u1 u2
 have hF2:fns.map rlF=F.map rlF:=(hFr.trans (zgz Hgf.out)).symm
 have hfl:F.length=f:=by rw [← Hf.out]; simpa using (congrArg List.length hF2).symm
 have hq:=zhi (zfA 3 s (.ok (gl,F)) w5 (by omega) (He4.out.below hb5) hp)
 have HF2:=zhi hF2
 have Hfl:=zhi hfl
 have Hb5':=zhi hb5
 have Ht5:=zhi (Ht4.out.low hb5)
 clear hfm u1 u2 hp hFr hF2 hfl hb5 He4 Ht4 HU c0 c1
 go_wp2_with fail
 refine hq.out.mono ?_
 intro e w6 hg6
 obtain ⟨D8,d8,gB,gc2,fB,fc2,rfl,hgs,hfs,hb6⟩:=z7Q hg6
 rw [Hn.out,Hfl.out]
 have hb46:=z0d Hb5'.out hb6
 have hb7:=(Below.refl _ w6).alloc (Nat.le_refl _) (.cells #[.slice gB n gc2,.slice fB f fc2] 29)
 have hr7:=heap_alloc_new w6 (.cells #[.slice gB n gc2,.slice fB f fc2] 29)
 have hb47:=z0d hb46 hb7
 have hl4:=(Array.getElem?_eq_some_iff.1 HR4.out).1
 have hr4:=(hb47.block pb hl4).trans HR4.out
 have hg1:=z28 HG4.out (fun q hq=>hb47.block q (by omega))
 have hf1:=z5u (z27 HF4.out (fun q hq=>hb47.block q (by omega))) D8 d8
 have hg2:=z28 (zd3 hgs) (fun q hq=>hb7.block q hq.2)
 have hf2:=z5u (z27 (zcZ hfs) (fun q hq=>hb7.block q hq.2)) 3 3
 have eD:D8+3=3+D8:=Nat.add_comm _ _
 have ed:d8+(3+1)=3+(d8+1):=by omega
 rw [eD,ed] at hf2
 obtain ⟨w7,hw7⟩:∃ w7,w6.alloc (.cells #[.slice gB n gc2,.slice fB f fc2] 29)=w7:=⟨_,rfl⟩
 rw [hw7] at hb7 hr7 hb47 hr4 hg1 hf1 hg2 hf2
 have hs67:=hb7.size
 have hs47:=hb47.size
 have HSm:=zhi (zbG gl fns F HF2.out gA fA gB fB gc fc gc2 fc2 n f hg1 hg2 hf1 hf2 (fun q hq=>by omega) (fun q hq=>by omega) (fun x hx=>(HSh.out D8 (d8+1) x hx).2) Hn.out Hf.out (by omega) (by omega))
 have hT:fmtP (3+D8) (3+(d8+1)) gl F=fmtP 3 3 gl fns:=by rw [← zeX HF2.out,zeZ Hgf.out]
 have Ht7:=(Ht5.out.low hb6).low hb7
 have HFm:=zhi (fun V (hV:Below w7.heap.size w7 V)=>z5t gl F gB fB gc2 fc2 n f V (z28 hg2 (fun q hq=>hV.block q (by omega))) (z27 hf2 (fun q hq=>hV.block q (by omega))) Hn.out Hfl.out (fun q hq=>by have:=hV.size; omega) (Ht7.low hV) (Ht7.low hV).lt HGl.out (fun x hx=>(zaP D8 (d8+1) Hgf.out HF2.out x hx).1) (by omega) (by omega) (by omega) (by rw [hT]; have:=HLn.out; omega))
 have HT:=zhi (hT.trans hs.out.symm)
 have Hb7:=zhi (z0d Hb4.out hb47)
 have HR7:=zhi hr7
 obtain ⟨c0,c1⟩:=cl2 hr4
 obtain ⟨e0,e1⟩:=cl2 hr7
 obtain ⟨qb,hqb⟩:∃ qb,w6.heap.size=qb:=⟨_,rfl⟩
 rw [hqb] at HR7 e0 e1
 clear hq hg6 hgs hfs hb6 hb46 hb47 hb7 hr7 hr4 hg1 hf1 hg2 hf2 eD ed hT Ht7 HG4 HF4 HR4 Hb4 Hb5' Ht5 HSh HF2 Hgg Hgf HGl hl4 hs67
 go_upto_region 7 with fail
 clear hw7 hqb
 go_wp2_with fail
 refine HSm.out.mono ?_
 rintro e w8 ⟨rfl,hb8⟩
 have HFm8:=zhi (HFm.out w8 hb8)
 have hr8:=(hb8.block qb (Array.getElem?_eq_some_iff.1 HR7.out).1).trans HR7.out
 have Hb8:=zhi (z0d Hb7.out hb8)
 clear c0 c1 e0 e1 HSm HFm HR7 Hb7 hb8
 obtain ⟨e0,e1⟩:=cl2 hr8
 clear hr8
 go_wp2_with fail
 refine HFm8.out.mono ?_
 rintro e w9 ⟨t,rfl,ht,hb9⟩
 obtain rfl:t=s:=zcI (ht.out.trans HT.out)
 have Hb9:=zhi (z0d Hb8.out hb9)
 clear HFm8 Hb8 hb9 ht hs HT e0 e1
 go_wp2_with fail
 go_ret
 exact ⟨rfl,Hb9.out⟩
end Go.Proofs.YtdplfnemedckaaaGreatDoor
