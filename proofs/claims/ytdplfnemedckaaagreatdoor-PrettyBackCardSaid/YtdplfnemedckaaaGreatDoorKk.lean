/-
  Kk: PtS, PtBk, PtF, PtL. Walks and laws that the statement's proof is made of. No condition of its own.
-/
import Derived.Test.YtdplfnemedckaaaGreatDoorKj
import Derived.Test.YtdplfnemedckaaaGreatDoorKg
namespace Go.Proofs.YtdplfnemedckaaaGreatDoor
open Go.RowKit
theorem z3V {k line:Int} {nm:ByteArray} {V:P1} {s s':PS} {x:St} (h:oneP k line nm V s=some (x,s')):∃ y,V s=some (y,s')∧x=.mk k line nm [y] [] []:=by
 unfold oneP at h
 cases hq:V s with
 | none=>rw [hq] at h; cases h
 | some q =>
  obtain ⟨y,s1⟩:=q
  rw [hq] at h
  injection h with h
  injection h with e1 e2
  subst e2
  exact ⟨y,rfl,e1.symm⟩
theorem zd6 {B:PSL} {E:P1} {s s':PS} {x:St} {ln:Int} (h:(match z1H B E (popP s) with
  | none=>none
  | some (x,t,s2) =>
   if z0c [z2J] s2 then
    match B (popP s2) with
    | none=>none
    | some (u,s3)=>some (St.mk 4 ln ⟨#[]⟩ [x] t u,s3)
   else some (.mk 4 ln ⟨#[]⟩ [x] t [],s2))=some (x,s')):∃ y ts s2,z1H B E (popP s)=some (y,ts,s2)∧((z0c [z2J] s2=true∧∃ us,B (popP s2)=some (us,s')∧x=.mk 4 ln ⟨#[]⟩ [y] ts us)∨(z0c [z2J] s2=false∧x=.mk 4 ln ⟨#[]⟩ [y] ts []∧s'=s2)):=by
 cases h1:z1H B E (popP s) with
 | none=>rw [h1] at h; cases h
 | some q =>
  obtain ⟨y,ts,s2⟩:=q
  rw [h1] at h
  dsimp only at h
  cases h3:z0c [z2J] s2 with
  | true =>
   rw [if_pos h3] at h
   cases h4:B (popP s2) with
   | none=>rw [h4] at h; cases h
   | some q4 =>
    obtain ⟨us,s4⟩:=q4
    rw [h4] at h
    injection h with h
    injection h with e1 e2
    subst e2
    exact ⟨y,ts,s2,rfl,.inl ⟨h3,us,h4,e1.symm⟩⟩
  | false =>
   rw [if_neg (by rw [h3]; decide)] at h
   injection h with h
   injection h with e1 e2
   exact ⟨y,ts,s2,rfl,.inr ⟨h3,e1.symm,e2.symm⟩⟩
theorem z8f {B:PSL} {E:P1} {s s':PS} {x:St} {ln:Int} (h:(match z1H B E (popP s) with
  | none=>none
  | some (x,t,s2)=>some (St.mk 5 ln ⟨#[]⟩ [x] t [],s2))=some (x,s')):∃ y ts,z1H B E (popP s)=some (y,ts,s')∧x=.mk 5 ln ⟨#[]⟩ [y] ts []:=by
 cases h1:z1H B E (popP s) with
 | none=>rw [h1] at h; cases h
 | some q =>
  obtain ⟨y,ts,s2⟩:=q
  rw [h1] at h
  injection h with h
  injection h with e1 e2
  subst e2
  exact ⟨y,ts,rfl,e1.symm⟩
theorem zdX {p tb:Nat} {s:PS} {w:World} {ln:Int} (h:PA w p tb s):SW w p tb (w.heap.size+1) z3A 0 ln ⟨#[]⟩ s [] ((w.alloc z3A).alloc (.cells #[.int .i64 0,.int .i64 ln,.string ⟨#[]⟩,.slice none 0 0,.slice none 0 0,.slice none 0 0] 84)):=by
 have hb:=((Below.refl _ w).alloc (Nat.le_refl _) z3A).alloc (by simp) (.cells #[.int .i64 0,.int .i64 ln,.string ⟨#[]⟩,.slice none 0 0,.slice none 0 0,.slice none 0 0] 84)
 exact ⟨h.below hb,z01 hb _,z0G w _ _,⟨h.lt.1,h.lt.2.1,by omega⟩,none,0,0,0,[],z0F w _ _,ArgG.nil _ _ _ _ _⟩
set_option maxRecDepth 100000 in
set_option maxHeartbeats 8000000 in
theorem zdV (B:PSL) (E:P1) (he:z1K 132 E) (hbk:z98 74 B):zeI 101 (z4k B E):=by
 intro p tb s s' x w h hP
 unfold z4k at hP
 have HP:=zhi hP
 have HExp:=zhi he
 have HBlk:=zhi hbk
 have plt:=h.lt.1
 have tlt:=h.lt.2.1
 have hwf:=h.wf.pos
 have c0:=h
 obtain ⟨off,c,m,hr⟩:=c0
 have hcap:=hr.cap
 have c0:=hr.cells.1
 have l0:=hr.hd.2.1
 have H0:=zhi (zdX (ln:=((hdT s).line:Int)) h)
 clear he hbk hP h hr
 go_enter Tryz.func101,Tryz.ntmps101
 go_wp2_with fail
 obtain ⟨sb,hsb⟩:∃ sb,sb=w.heap.size+1:=⟨_,rfl⟩
 rw [← hsb] at H0 ⊢
 clear hsb
 obtain ⟨wq,hwq⟩:∃ wq,wq=((w.alloc (.cells #[.int .i64 0,.int .i64 0,.string { data:=#[] },.slice none 0 0,.slice none 0 0,.slice none 0 0] 84)).alloc (.cells #[.int .i64 0,.int .i64 ((hdT s).line:Int),.string ⟨#[]⟩,.slice none 0 0,.slice none 0 0,.slice none 0 0] 84)):=⟨_,rfl⟩
 have H1:Hid (SW w p tb sb z3A 0 ((hdT s).line:Int) ⟨#[]⟩ s [] wq):=by rw [hwq]; exact H0
 rw [← hwq]
 clear H0 hwq c0 l0 hcap
 have H:=H1
 clear H1
 cases hv:z0c [wVar] s with
 | true =>
  have HA:=zhi (z0n wVar ⟨#[118,97,114]⟩ _ rfl (by decide) H.out.pa hv)
  refine HA.out.mono ?_
  rintro e wa ⟨rfl,hpa,hga⟩
  have H2:=zhi (H.out.step hga hpa)
  have hP:=HP.out
  rw [if_pos hv] at hP
  clear hpa hga HA H HP
  have H:=H2
  clear H2
  obtain ⟨y,hq,rfl⟩:=z3V hP
  have HQ:=zhi hq
  obtain ⟨A1,n1,c1,dd1,L1,hrow1,_⟩:=H.out.row
  have b0:=cell_of_row _ _ 0 _ _ _ hrow1
  have f0:=z0i hrow1 0
  have HK:=zhi (H.out.kind 1)
  have HN:=zhi (z2T _ HK.out.pa)
  have HLn:=zhi (z1h 1 (popP s) HK.out.pa.wf.pos)
  clear hP hq hrow1 H
  go_wp2_with fail
  clear b0 f0
  refine HN.out.mono ?_
  rintro e wn ⟨rfl,hpn,hgn⟩
  have H2:=zhi (HK.out.step hgn hpn)
  have H3:=zhi (H2.out.name (nmB (z07 1 (popP s)).1.text))
  obtain ⟨A2,n2,c2,dd2,L2,hrow2,_⟩:=H2.out.row
  have b2:=cell_of_row _ _ 2 _ _ _ hrow2
  have f2:=z0i hrow2 2
  have HD:=zhi (z0r [61] ⟨#[61]⟩ _ rfl (by decide) H3.out.pa)
  have HLd:=zhi (z0q [61] _ H3.out.pa.wf.pos)
  clear hrow2 hpn hgn HN HK H2
  go_wp2_with fail
  clear b2 f2
  refine HD.out.mono ?_
  rintro e wd ⟨⟨vd,rfl⟩,hpd,hgd⟩
  have H4:=zhi (H3.out.step hgd hpd)
  have HC:=zhi (z2I E HExp.out _ H4.out HQ.out (by simp))
  clear hpd hgd HD H3
  go_wp2_with fail
  refine HC.out.mono ?_
  rintro e wv ⟨⟨v8,rfl⟩,hs8,hl8⟩
  have H:=zhi hs8.su
  have HL:=zhi (show s'.rest.length≤s.rest.length by
   have h1:=HLn.out
   have h2:=HLd.out
   rw [z0h] at h1
   omega)
  clear hs8 hl8 HC H4 HQ
  obtain ⟨D9,d9,k9,l9,t9,eA9,en9,ec9,tA9,tn9,tc9,uA9,un9,uc9,hr9,hv9⟩:=H.out.at_
  obtain ⟨b0,b1,b2,b3,b4,b5⟩:=cl6 hr9
  have HV9:=zhi hv9
  clear hr9 hv9
  go_wp2_with (with_reducible refine z2p ?_)
  refine z0a.of (z00 _ rfl _ _ _ rfl w.heap.size _ rfl (by rfl) _ _ H.out.z (by kernel_rfl) (by rfl) (by simp [Value.oneCell']) ?_)
  intro w9 hrow9 hg9
  obtain ⟨j0,j1,j2,j3,j4,j5⟩:=cl6 hrow9
  have HH:=zhi (z3i HV9.out H.out HL.out plt tlt hg9)
  clear hrow9 hg9 b0 b1 b2 b3 b4 b5
  go_wp2_with fail
  exact bodyPost_ret (by simp [results,Tryz.results101,go_sem,j0,j1,j2,j3,j4,j5]) rfl HH.out
 | false =>
  have HA:=zhi (z0m wVar ⟨#[118,97,114]⟩ _ rfl H.out.pa hv)
  refine HA.out.mono ?_
  rintro e wa0 ⟨rfl,hpa,hga⟩
  have H2:=zhi (H.out.step hga hpa)
  have hP:=HP.out
  rw [if_neg (by rw [hv]; decide)] at hP
  clear HP
  have HP:=zhi hP
  clear hpa hga HA H hP
  have H:=H2
  clear H2
  go_wp2_with fail
  cases hv:z0c [wIf] s with
  | true =>
   have HA:=zhi (z0n wIf ⟨#[105,102]⟩ _ rfl (by decide) H.out.pa hv)
   refine HA.out.mono ?_
   rintro e wa ⟨rfl,hpa,hga⟩
   have H2:=zhi (H.out.step hga hpa)
   have hP:=HP.out
   rw [if_pos hv] at hP
   clear hpa hga HA H HP
   have H:=H2
   clear H2
   obtain ⟨y,ts,s2,hgu,hcase⟩:=zd6 hP
   obtain ⟨A1,n1,c1,dd1,L1,hrow1,_⟩:=H.out.row
   have b0:=cell_of_row _ _ 0 _ _ _ hrow1
   have f0:=z0i hrow1 0
   have HK:=zhi (H.out.kind 4)
   have HC:=zhi (z4V B E HExp.out HBlk.out _ plt tlt HK.out.su hgu)
   clear hP hgu hrow1 H
   go_wp2_with fail
   clear b0 f0
   refine HC.out.mono ?_
   rintro e wg ⟨⟨v8,rfl⟩,hs8,hl8⟩
   have H5:=zhi hs8
   have HL8:=zhi hl8
   clear hs8 hl8 HC HK
   rcases hcase with ⟨hse,us,hbu,rfl⟩ | ⟨hse,rfl,rfl⟩
   ·have HA:=zhi (z0n z2J ⟨#[101,108,115,101]⟩ _ rfl (by decide) H5.out.ra hse)
    go_wp2_with fail
    refine HA.out.mono ?_
    rintro e we ⟨rfl,hpe,hge⟩
    have H6:=zhi (H5.out.step plt hge hpe)
    have HBc:=zhi (HBlk.out p tb _ s' us _ H6.out.ra hbu)
    clear hpe hge HA H5 hbu hse
    go_wp2_with fail
    refine HBc.out.mono ?_
    rintro e wb ⟨Db,db,Ab,mb,cb,rfl,hmb,hrb,hpb,hgb,hlb⟩
    have hsb:=H6.out.lt
    have hsl:=H6.out.slt
    have Hb:=zhi (H6.out.step plt hgb hpb)
    have HRb:=zhi (RowS.keep (G:=FF (w.heap.size+1) sb wb) (fun q hq=>⟨by omega,hq.2,by omega⟩) (fun _ _=>rfl) hrb)
    obtain ⟨v0,v1,v2,v3,v4,v5,hrowU⟩:=Hb.out.row
    have b5:=cell_of_row _ _ 5 _ _ _ hrowU
    have f5:=z0i hrowU 5
    have H:=zhi (Hb.out.elses plt tlt HRb.out hmb)
    have HL:=zhi (show s'.rest.length≤s.rest.length by
     have h1:=HL8.out
     rw [z0h] at h1
     rw [z0h] at hlb
     omega)
    clear hmb hrb hpb hgb hlb HBc H6 hrowU Hb HRb HL8
    go_upto_region 25 with fail
    clear b5 f5
    obtain ⟨wz,hwz⟩:∃ wz,wz=wb.setCell ⟨sb,5,none⟩ (.slice Ab mb cb):=⟨_,rfl⟩
    rw [← hwz] at H ⊢
    clear hwz
    obtain ⟨D9,d9,k9,l9,t9,eA9,en9,ec9,tA9,tn9,tc9,uA9,un9,uc9,hr9,hv9⟩:=H.out.at_
    obtain ⟨b0,b1,b2,b3,b4,b5⟩:=cl6 hr9
    have HV9:=zhi hv9
    clear hr9 hv9
    go_wp2_with (with_reducible refine z2p ?_)
    refine z0a.of (z00 _ rfl _ _ _ rfl w.heap.size _ rfl (by rfl) _ _ H.out.z (by kernel_rfl) (by rfl) (by simp [Value.oneCell']) ?_)
    intro w9 hrow9 hg9
    obtain ⟨j0,j1,j2,j3,j4,j5⟩:=cl6 hrow9
    have HH:=zhi (z3i HV9.out H.out HL.out plt tlt hg9)
    clear hrow9 hg9 b0 b1 b2 b3 b4 b5
    go_wp2_with fail
    exact bodyPost_ret (by simp [results,Tryz.results101,go_sem,j0,j1,j2,j3,j4,j5]) rfl HH.out
   ·have HA:=zhi (z0m z2J ⟨#[101,108,115,101]⟩ _ rfl H5.out.ra hse)
    go_wp2_with fail
    refine HA.out.mono ?_
    rintro e we ⟨rfl,hpe,hge⟩
    have H:=zhi (H5.out.step plt hge hpe)
    have HL:=zhi (show s'.rest.length≤s.rest.length by
     have h1:=HL8.out
     rw [z0h] at h1
     omega)
    clear hpe hge HA H5 hse HL8
    obtain ⟨D9,d9,k9,l9,t9,eA9,en9,ec9,tA9,tn9,tc9,uA9,un9,uc9,hr9,hv9⟩:=H.out.at_
    obtain ⟨b0,b1,b2,b3,b4,b5⟩:=cl6 hr9
    have HV9:=zhi hv9
    clear hr9 hv9
    go_wp2_with (with_reducible refine z2p ?_)
    refine z0a.of (z00 _ rfl _ _ _ rfl w.heap.size _ rfl (by rfl) _ _ H.out.z (by kernel_rfl) (by rfl) (by simp [Value.oneCell']) ?_)
    intro w9 hrow9 hg9
    obtain ⟨j0,j1,j2,j3,j4,j5⟩:=cl6 hrow9
    have HH:=zhi (z3i HV9.out H.out HL.out plt tlt hg9)
    clear hrow9 hg9 b0 b1 b2 b3 b4 b5
    go_wp2_with fail
    exact bodyPost_ret (by simp [results,Tryz.results101,go_sem,j0,j1,j2,j3,j4,j5]) rfl HH.out
  | false =>
   have HA:=zhi (z0m wIf ⟨#[105,102]⟩ _ rfl H.out.pa hv)
   refine HA.out.mono ?_
   rintro e wa1 ⟨rfl,hpa,hga⟩
   have H2:=zhi (H.out.step hga hpa)
   have hP:=HP.out
   rw [if_neg (by rw [hv]; decide)] at hP
   clear HP
   have HP:=zhi hP
   clear hpa hga HA H hP
   have H:=H2
   clear H2
   go_wp2_with fail
   cases hv:z0c [z2q] s with
   | true =>
    have HA:=zhi (z0n z2q ⟨#[119,104,105,108,101]⟩ _ rfl (by decide) H.out.pa hv)
    refine HA.out.mono ?_
    rintro e wa ⟨rfl,hpa,hga⟩
    have H2:=zhi (H.out.step hga hpa)
    have hP:=HP.out
    rw [if_pos hv] at hP
    clear hpa hga HA H HP
    have H:=H2
    clear H2
    obtain ⟨y,ts,hgu,rfl⟩:=z8f hP
    obtain ⟨A1,n1,c1,dd1,L1,hrow1,_⟩:=H.out.row
    have b0:=cell_of_row _ _ 0 _ _ _ hrow1
    have f0:=z0i hrow1 0
    have HK:=zhi (H.out.kind 5)
    have HC:=zhi (z4V B E HExp.out HBlk.out _ plt tlt HK.out.su hgu)
    clear hP hgu hrow1 H
    go_wp2_with fail
    clear b0 f0
    refine HC.out.mono ?_
    rintro e wg ⟨⟨v8,rfl⟩,hs8,hl8⟩
    have H:=zhi hs8
    have HL:=zhi (show s'.rest.length≤s.rest.length by rw [z0h] at hl8; omega)
    clear hs8 hl8 HC HK
    obtain ⟨D9,d9,k9,l9,t9,eA9,en9,ec9,tA9,tn9,tc9,uA9,un9,uc9,hr9,hv9⟩:=H.out.at_
    obtain ⟨b0,b1,b2,b3,b4,b5⟩:=cl6 hr9
    have HV9:=zhi hv9
    clear hr9 hv9
    go_wp2_with (with_reducible refine z2p ?_)
    refine z0a.of (z00 _ rfl _ _ _ rfl w.heap.size _ rfl (by rfl) _ _ H.out.z (by kernel_rfl) (by rfl) (by simp [Value.oneCell']) ?_)
    intro w9 hrow9 hg9
    obtain ⟨j0,j1,j2,j3,j4,j5⟩:=cl6 hrow9
    have HH:=zhi (z3i HV9.out H.out HL.out plt tlt hg9)
    clear hrow9 hg9 b0 b1 b2 b3 b4 b5
    go_wp2_with fail
    exact bodyPost_ret (by simp [results,Tryz.results101,go_sem,j0,j1,j2,j3,j4,j5]) rfl HH.out
   | false =>
    have HA:=zhi (z0m z2q ⟨#[119,104,105,108,101]⟩ _ rfl H.out.pa hv)
    refine HA.out.mono ?_
    rintro e wa2 ⟨rfl,hpa,hga⟩
    have H2:=zhi (H.out.step hga hpa)
    have hP:=HP.out
    rw [if_neg (by rw [hv]; decide)] at hP
    clear HP
    have HP:=zhi hP
    clear hpa hga HA H hP
    have H:=H2
    clear H2
    go_wp2_with fail
    cases hv:z0c [z2j] s with
    | true =>
     have HA:=zhi (z0n z2j ⟨#[114,101,116,117,114,110]⟩ _ rfl (by decide) H.out.pa hv)
     refine HA.out.mono ?_
     rintro e wa ⟨rfl,hpa,hga⟩
     have H2:=zhi (H.out.step hga hpa)
     have hP:=HP.out
     rw [if_pos hv] at hP
     clear hpa hga HA H HP
     have H:=H2
     clear H2
     obtain ⟨y,hq,rfl⟩:=z3V hP
     have HQ:=zhi hq
     obtain ⟨A1,n1,c1,dd1,L1,hrow1,_⟩:=H.out.row
     have b0:=cell_of_row _ _ 0 _ _ _ hrow1
     have f0:=z0i hrow1 0
     have HK:=zhi (H.out.kind 6)
     have HC:=zhi (z2I E HExp.out _ HK.out HQ.out (by simp))
     clear hP hq hrow1 H
     go_wp2_with fail
     clear b0 f0
     refine HC.out.mono ?_
     rintro e wv ⟨⟨v8,rfl⟩,hs8,hl8⟩
     have H:=zhi hs8.su
     have HL:=zhi (show s'.rest.length≤s.rest.length by rw [z0h] at hl8; omega)
     clear hs8 hl8 HC HK HQ
     obtain ⟨D9,d9,k9,l9,t9,eA9,en9,ec9,tA9,tn9,tc9,uA9,un9,uc9,hr9,hv9⟩:=H.out.at_
     obtain ⟨b0,b1,b2,b3,b4,b5⟩:=cl6 hr9
     have HV9:=zhi hv9
     clear hr9 hv9
     go_wp2_with (with_reducible refine z2p ?_)
     refine z0a.of (z00 _ rfl _ _ _ rfl w.heap.size _ rfl (by rfl) _ _ H.out.z (by kernel_rfl) (by rfl) (by simp [Value.oneCell']) ?_)
     intro w9 hrow9 hg9
     obtain ⟨j0,j1,j2,j3,j4,j5⟩:=cl6 hrow9
     have HH:=zhi (z3i HV9.out H.out HL.out plt tlt hg9)
     clear hrow9 hg9 b0 b1 b2 b3 b4 b5
     go_wp2_with fail
     exact bodyPost_ret (by simp [results,Tryz.results101,go_sem,j0,j1,j2,j3,j4,j5]) rfl HH.out
    | false =>
     have HA:=zhi (z0m z2j ⟨#[114,101,116,117,114,110]⟩ _ rfl H.out.pa hv)
     refine HA.out.mono ?_
     rintro e wa3 ⟨rfl,hpa,hga⟩
     have H2:=zhi (H.out.step hga hpa)
     have hP:=HP.out
     rw [if_neg (by rw [hv]; decide)] at hP
     clear HP
     have HP:=zhi hP
     clear hpa hga HA H hP
     have H:=H2
     clear H2
     go_wp2_with fail
     cases hv:z0c [z3n] s with
     | true =>
      have HA:=zhi (z0n z3n ⟨#[112,114,105,110,116]⟩ _ rfl (by decide) H.out.pa hv)
      refine HA.out.mono ?_
      rintro e wa ⟨rfl,hpa,hga⟩
      have H2:=zhi (H.out.step hga hpa)
      have hP:=HP.out
      rw [if_pos hv] at hP
      clear hpa hga HA H HP
      have H:=H2
      clear H2
      obtain ⟨y,hq,rfl⟩:=z3V hP
      have HQ:=zhi hq
      obtain ⟨A1,n1,c1,dd1,L1,hrow1,_⟩:=H.out.row
      have b0:=cell_of_row _ _ 0 _ _ _ hrow1
      have f0:=z0i hrow1 0
      have HK:=zhi (H.out.kind 7)
      have HC:=zhi (z2I E HExp.out _ HK.out HQ.out (by simp))
      clear hP hq hrow1 H
      go_wp2_with fail
      clear b0 f0
      refine HC.out.mono ?_
      rintro e wv ⟨⟨v8,rfl⟩,hs8,hl8⟩
      have H:=zhi hs8.su
      have HL:=zhi (show s'.rest.length≤s.rest.length by rw [z0h] at hl8; omega)
      clear hs8 hl8 HC HK HQ
      obtain ⟨D9,d9,k9,l9,t9,eA9,en9,ec9,tA9,tn9,tc9,uA9,un9,uc9,hr9,hv9⟩:=H.out.at_
      obtain ⟨b0,b1,b2,b3,b4,b5⟩:=cl6 hr9
      have HV9:=zhi hv9
      clear hr9 hv9
      go_wp2_with (with_reducible refine z2p ?_)
      refine z0a.of (z00 _ rfl _ _ _ rfl w.heap.size _ rfl (by rfl) _ _ H.out.z (by kernel_rfl) (by rfl) (by simp [Value.oneCell']) ?_)
      intro w9 hrow9 hg9
      obtain ⟨j0,j1,j2,j3,j4,j5⟩:=cl6 hrow9
      have HH:=zhi (z3i HV9.out H.out HL.out plt tlt hg9)
      clear hrow9 hg9 b0 b1 b2 b3 b4 b5
      go_wp2_with fail
      exact bodyPost_ret (by simp [results,Tryz.results101,go_sem,j0,j1,j2,j3,j4,j5]) rfl HH.out
     | false =>
      have HA:=zhi (z0m z3n ⟨#[112,114,105,110,116]⟩ _ rfl H.out.pa hv)
      refine HA.out.mono ?_
      rintro e wa4 ⟨rfl,hpa,hga⟩
      have H2:=zhi (H.out.step hga hpa)
      have hP:=HP.out
      rw [if_neg (by rw [hv]; decide)] at hP
      clear HP
      have HP:=zhi hP
      clear hpa hga HA H hP
      have H:=H2
      clear H2
      go_wp2_with fail
      cases hv:z0c [z5f] s with
      | true =>
       have HA:=zhi (z0n z5f ⟨#[99,97,108,108]⟩ _ rfl (by decide) H.out.pa hv)
       refine HA.out.mono ?_
       rintro e wa ⟨rfl,hpa,hga⟩
       have H2:=zhi (H.out.step hga hpa)
       have hP:=HP.out
       rw [if_pos hv] at hP
       clear hpa hga HA H HP
       have H:=H2
       clear H2
       obtain ⟨y,hq,rfl⟩:=z3V hP
       have HQ:=zhi hq
       obtain ⟨A1,n1,c1,dd1,L1,hrow1,_⟩:=H.out.row
       have b0:=cell_of_row _ _ 0 _ _ _ hrow1
       have f0:=z0i hrow1 0
       have HK:=zhi (H.out.kind 8)
       have HC:=zhi (z2I E HExp.out _ HK.out HQ.out (by simp))
       clear hP hq hrow1 H
       go_wp2_with fail
       clear b0 f0
       refine HC.out.mono ?_
       rintro e wv ⟨⟨v8,rfl⟩,hs8,hl8⟩
       have H:=zhi hs8.su
       have HL:=zhi (show s'.rest.length≤s.rest.length by rw [z0h] at hl8; omega)
       clear hs8 hl8 HC HK HQ
       obtain ⟨D9,d9,k9,l9,t9,eA9,en9,ec9,tA9,tn9,tc9,uA9,un9,uc9,hr9,hv9⟩:=H.out.at_
       obtain ⟨b0,b1,b2,b3,b4,b5⟩:=cl6 hr9
       have HV9:=zhi hv9
       clear hr9 hv9
       go_wp2_with (with_reducible refine z2p ?_)
       refine z0a.of (z00 _ rfl _ _ _ rfl w.heap.size _ rfl (by rfl) _ _ H.out.z (by kernel_rfl) (by rfl) (by simp [Value.oneCell']) ?_)
       intro w9 hrow9 hg9
       obtain ⟨j0,j1,j2,j3,j4,j5⟩:=cl6 hrow9
       have HH:=zhi (z3i HV9.out H.out HL.out plt tlt hg9)
       clear hrow9 hg9 b0 b1 b2 b3 b4 b5
       go_wp2_with fail
       exact bodyPost_ret (by simp [results,Tryz.results101,go_sem,j0,j1,j2,j3,j4,j5]) rfl HH.out
      | false =>
       have HA:=zhi (z0m z5f ⟨#[99,97,108,108]⟩ _ rfl H.out.pa hv)
       refine HA.out.mono ?_
       rintro e wa5 ⟨rfl,hpa,hga⟩
       have H2:=zhi (H.out.step hga hpa)
       have hP:=HP.out
       rw [if_neg (by rw [hv]; decide)] at hP
       clear HP
       have HP:=zhi hP
       clear hpa hga HA H hP
       have H:=H2
       clear H2
       go_wp2_with fail
       have HC:=zhi (z9i E HExp.out _ H.out HP.out)
       refine HC.out.mono ?_
       rintro e wg ⟨⟨v8,rfl⟩,hs8,hl8⟩
       clear H
       have H:=zhi hs8
       have HL:=zhi hl8
       clear hs8 hl8 HC HP
       obtain ⟨D9,d9,k9,l9,t9,eA9,en9,ec9,tA9,tn9,tc9,uA9,un9,uc9,hr9,hv9⟩:=H.out.at_
       obtain ⟨b0,b1,b2,b3,b4,b5⟩:=cl6 hr9
       have HV9:=zhi hv9
       clear hr9 hv9
       go_wp2_with (with_reducible refine z2p ?_)
       refine z0a.of (z00 _ rfl _ _ _ rfl w.heap.size _ rfl (by rfl) _ _ H.out.z (by kernel_rfl) (by rfl) (by simp [Value.oneCell']) ?_)
       intro w9 hrow9 hg9
       obtain ⟨j0,j1,j2,j3,j4,j5⟩:=cl6 hrow9
       have HH:=zhi (z3i HV9.out H.out HL.out plt tlt hg9)
       clear hrow9 hg9 b0 b1 b2 b3 b4 b5
       go_wp2_with fail
       exact bodyPost_ret (by simp [results,Tryz.results101,go_sem,j0,j1,j2,j3,j4,j5]) rfl HH.out
end Go.Proofs.YtdplfnemedckaaaGreatDoor
namespace Go.Proofs.YtdplfnemedckaaaGreatDoor
open Go.RowKit
theorem PA.sm {w:World} {p tb:Nat} {s:PS} (h:PA w p tb s):s.rest.length≤1000001:=by
 obtain ⟨off,c,n,h⟩:=h
 have h1:=h.sm
 have h2:s.rest.length=n+1:=h.len
 omega
theorem zat {s:PS} (x:z03) (h:s.rest.length≤1000001) (h0:0<s.rest.length):(z09 x s).rest.length≤1000000:=by
 unfold z09
 split
 ·rw [z0h]; omega
 ·rw [z1B s h0]; omega
def BlkP (S:PS1) (p tb n0:Nat) (ts:List St) (s s':PS) (w:World) (v:Value) (wr:World):Prop :=
 ∃ n xs ss L A m c D d,v=.slice A m c∧m=xs.length∧n+xs.length=n0∧z2H S n xs ss=some (ts,s')∧GRow 6 84 (MSt D d) w.heap.size wr (.slice A m c) xs L∧PA wr p tb ss∧w.grownBy wr (some p)∧ss.rest.length≤s.rest.length
theorem z7k {S:PS1} {n:Nat} {xs ts:List St} {s s':PS} (h:z2H S n xs s=some (ts,s')):(z0c [[125]] s=true∧ts=xs∧s'=popP s)∨(z0c [[125]] s=false∧((s.ref≠0∧ts=xs∧s'=s)∨(s.ref=0∧∃ m t s1,n=m+1∧S s=some (t,s1)∧z2H S m (xs++[t]) s1=some (ts,s')))):=by
 cases n with
 | zero=>cases h
 | succ m =>
  simp only [z2H] at h
  cases hb:z0c [[125]] s with
  | true =>
   simp only [hb,if_true] at h
   injection h with h
   injection h with e1 e2
   exact .inl ⟨rfl,e1.symm,e2.symm⟩
  | false =>
   simp only [hb,Bool.false_eq_true,if_false] at h
   refine .inr ⟨rfl,?_⟩
   by_cases hi:s.ref=0
   ·rw [if_neg (by omega)] at h
    refine .inr ⟨hi,?_⟩
    cases hq:S s with
    | none=>rw [hq] at h; cases h
    | some q=>rw [hq] at h; exact ⟨m,q.1,q.2,rfl,rfl,h⟩
   ·rw [if_pos hi] at h
    injection h with h
    injection h with e1 e2
    exact .inl ⟨hi,e1.symm,e2.symm⟩
set_option maxRecDepth 100000 in
set_option maxHeartbeats 4000000 in
theorem z6I (S:PS1) (hs:zeI 101 S):z98 74 (z1D S):=by
 intro p tb s s' ts w h hP
 have plt:=h.lt.1
 have tlt:=h.lt.2.1
 have HS:=zhi hs
 have HP:=zhi hP
 have HX:=zhi (z0r [123] ⟨#[123]⟩ w rfl (by decide) h)
 have hsm:=h.sm
 have hel:=z0q [123] s h.wf.pos
 have HSM:Hid ((z09 [123] s).rest.length≤1000000):=zhi (zat [123] hsm h.wf.pos)
 have HEL:=zhi hel
 clear hs hP h hsm hel
 go_enter Tryz.func74,Tryz.ntmps74
 go_wp2_with fail
 refine HX.out.mono ?_
 rintro e w1 ⟨⟨v1,rfl⟩,hp1,hg1⟩
 have HR:Hid (BlkP S p tb ((z09 [123] s).rest.length+1) ts s s' w (.slice none 0 0) w1):=zhi ⟨_,[],_,[],none,0,0,0,0,rfl,rfl,rfl,HP.out,GRow.nil,hp1,hg1,HEL.out⟩
 clear HP HX hp1 hg1
 go_wp2_with fail
 go_loopw [2] (fun v wr=>BlkP S p tb ((z09 [123] s).rest.length+1) ts s s' w v wr) (fun v _=>(z09 [123] s).rest.length+1 - z8T v)
 case atStart=>exact HR.out
 case round =>
  obtain ⟨n,xs,ss,L,A,m,c,D,d,rfl,hm,hn,hst,hgr,hp,hg,hl⟩:=hrel
  subst hm
  clear HR
  have HG:=zhi hg
  have HGR:=zhi hgr
  have Hl:=zhi hl
  have HN:=zhi hn
  have HC:=zhi (z7k hst)
  have hszr:=hg.size
  have HPP:=zhi hp
  clear hg hgr hl hst hn
  rcases HC.out with ⟨hs,rfl,rfl⟩ | ⟨hs,hc⟩
  ·have HAC:=zhi (z0n [125] ⟨#[125]⟩ wr rfl (by decide) hp hs)
   have hpl:=z0h ss
   clear HC hp hs
   go_wp2_with fail
   refine HAC.out.mono ?_
   rintro e w2 ⟨rfl,hp2,hg2⟩
   have HGR2:=zhi (HGR.out.grown (z2F D d) hg2 plt)
   have HE:Hid (BPG p tb ts s (popP ss) w (.returned (.slice A ts.length c)) w2):=zhi ⟨D,d,A,ts.length,c,rfl,rfl,zbM (HGR2.out.row (z2F D d)).2,hp2,HG.out.trans hg2,by have:=Hl.out; omega⟩
   clear HAC hp2 hg2 HGR HGR2 HG
   go_wp2_with fail
   go_ret
   exact HE.out
  ·have HAC:=zhi (z0m [125] ⟨#[125]⟩ wr rfl hp hs)
   clear HC hp hs
   go_wp2_with fail
   refine HAC.out.mono ?_
   rintro e w2 ⟨rfl,hp2,hg2⟩
   have HGR2:=zhi (HGR.out.grown (z2F D d) hg2 plt)
   have HG2:=zhi (HG.out.trans hg2)
   have HP2:=zhi hp2
   have hsz2:=hg2.size
   clear HAC hg2 HGR HG HPP
   obtain ⟨off,cc,N,hr⟩:=hp2
   have c1:=hr.cells.2.1
   clear hr
   rcases hc with ⟨hi,rfl,rfl⟩ | ⟨hi,m,t,s1,rfl,hq,hst⟩
   ·have hne:((s'.ref:Int) == 0)=false:=by simp; omega
    have HE:Hid (BPG p tb ts s s' w (.returned (.slice A ts.length c)) w2):=zhi ⟨D,d,A,ts.length,c,rfl,rfl,zbM (HGR2.out.row (z2F D d)).2,HP2.out,HG2.out,by have:=Hl.out; omega⟩
    clear HP2 hi
    go_wp2_with fail
    go_ret
    exact HE.out
   ·rw [hi] at c1
    have HX2:=zhi (HS.out p tb ss s1 t w2 HP2.out hq)
    have HST:=zhi hst
    have hxs:xs.length≤1000000:=by have:=HN.out; have:=HSM.out; omega
    clear HP2 hq hst hi
    go_wp2_with fail
    refine HX2.out.mono ?_
    rintro e w3 ⟨D3,d3,k3,l3,t3,eA,en,ec,tA,tn,tc,uA,un,uc,rfl,hv3,hp3,hg3,hl3⟩
    have hsz3:=hg3.size
    have HV3:=zhi (show MSt (D+D3) (d+d3+1) (fun q=>w2.heap.size≤q∧q<w3.heap.size) w3 t [.int .i64 k3,.int .i64 l3,.string t3,.slice eA en ec,.slice tA tn tc,.slice uA un uc] from by
     have:=hv3.more D d
     have e:d3+(d+1)=d+d3+1:=by omega
     rw [Nat.add_comm D3 D,e] at this
     exact this)
    have HGR3:=zhi ((HGR2.out.grown (z2F D d) hg3 plt).map (V':=MSt (D+D3) (d+d3+1)) (fun F w x cs h=>by
     have:=StV.more h D3 d3
     have e:d+(d3+1)=d+d3+1:=by omega
     rw [e] at this
     exact this))
    have HOU:=zhi (fun b hb=>(HGR2.out.own.lt b hb).2)
    have HP3:=zhi hp3
    have HG3:=zhi (HG2.out.trans hg3)
    have HL3:=zhi hl3
    clear hv3 hp3 hg3 hl3 HX2 HGR2 HG2 c1
    go_wp2_with (at_builtin; refine z0a.out ?_)
    refine z0a.of (z5g (k:=6) (T:=84) (S:=53) (V:=MSt (D+D3) (d+d3+1)) w3 rfl (.tmp 15) (.tmp 18) rfl (z2F _ _) _ _ Tryz.underlying53 zaY rfl (by decide) (by decide) w.heap.size (.slice A xs.length c) xs L t [.int .i64 k3,.int .i64 l3,.string t3,.slice eA en ec,.slice tA tn tc,.slice uA un uc] (fun q=>w2.heap.size≤q∧q<w3.heap.size) rfl rfl HGR3.out hxs (by omega) rfl (by simp [Value.oneCell']) HV3.out (fun b hb=>⟨by omega,hb.2,fun e=>by have:=HOU.out b e; omega⟩) ?_)
    intro g9 cap9 wz harz hgz
    have hbz:Below w.heap.size w3 wz:=z0b hgz (fun k hk=>(HGR3.out.own.lt k hk).1) (by omega)
    have HST2:Hid (BlkP S p tb ((z09 [123] s).rest.length+1) ts s s' w (.slice (some ⟨g9,0,none⟩) (xs.length+1) cap9) wz):=zhi ⟨m,xs++[t],s1,_,_,_,_,D+D3,d+d3+1,rfl,by simp,by have:=HN.out; simp; omega,HST.out,harz,HP3.out.low hbz plt tlt,z17 HG3.out hbz (Nat.le_refl _),by have:=HL3.out; have:=Hl.out; omega⟩
    have HNN:=zhi (show (z09 [123] s).rest.length+1 - (xs.length+1)<(z09 [123] s).rest.length+1 - xs.length by have:=HN.out; omega)
    clear harz hgz hbz HOU HL3 HP3 HGR3 HV3 HST
    go_wp2_with fail
    exact ⟨HST2.out,by simpa [z8T] using HNN.out⟩
theorem zaB:z1K 132 z3b:=fun p tb s s' x w h hP=>z8p s.rest.length p tb s s' x w h hP
theorem z7i:∀ d,zeI 101 (z2A d)
 | 0=>fun _ _ _ _ _ _ _ hP=>by cases hP
 | d+1=>zdV (z1D (z2A d)) z3b zaB (z6I (z2A d) (z7i d))
theorem z9a (d:Nat):z98 74 (z1D (z2A d)):=z6I _ (z7i d)
end Go.Proofs.YtdplfnemedckaaaGreatDoor
namespace Go.Proofs.YtdplfnemedckaaaGreatDoor
open Go.RowKit
structure FnP (w0:World) (p tb pbx fb:Nat) (nm:ByteArray) (ln:Int) (ps:List ByteArray) (s:PS) (W:World):Prop where
 pa:PA W p tb s
 cp:W.cell? ⟨pbx,0,none⟩=some (.pointer (some ⟨p,0,none⟩))
 gr:w0.grownBy W (some p)
 lo:p<w0.heap.size∧tb<w0.heap.size∧w0.heap.size≤pbx∧pbx<fb
 row:∃ A c L,W.heap[fb]?=some (.cells #[.string nm,.int .i64 ln,.slice A ps.length c,.slice none 0 0] 55 (0,0))∧GRow 1 9 MStr (fb+1) W (.slice A ps.length c) ps L
theorem FnP.flt {w0 W:World} {p tb pbx fb:Nat} {nm:ByteArray} {ln:Int} {ps:List ByteArray} {s:PS} (h:FnP w0 p tb pbx fb nm ln ps s W):fb<W.heap.size:=by
 obtain ⟨A,c,L,hr,_⟩:=h.row
 exact (Array.getElem?_eq_some_iff.1 hr).1
theorem FnP.step {w0 W W2:World} {p tb pbx fb:Nat} {nm:ByteArray} {ln:Int} {ps:List ByteArray} {s s2:PS} (h:FnP w0 p tb pbx fb nm ln ps s W) (hg:W.grownBy W2 (some p)) (hp:PA W2 p tb s2):FnP w0 p tb pbx fb nm ln ps s2 W2:=by
 obtain ⟨h1,h2,h3,h4⟩:=h.lo
 obtain ⟨A,c,L,hr,ha⟩:=h.row
 exact ⟨hp,z08 hg (by omega) h.cp,h.gr.trans hg,h.lo,A,c,L,z04 hg (by omega) hr,ha.grown z0L hg (by omega)⟩
theorem FnP.name {w0 W:World} {p tb pbx fb:Nat} {nm:ByteArray} {ln:Int} {ps:List ByteArray} {s:PS} (h:FnP w0 p tb pbx fb nm ln ps s W) (nm':ByteArray):FnP w0 p tb pbx fb nm' ln ps s (W.setCell ⟨fb,0,none⟩ (.string nm')):=by
 obtain ⟨h1,h2,h3,h4⟩:=h.lo
 obtain ⟨A,c,L,hr,ha⟩:=h.row
 have hg:W.grownBy (W.setCell ⟨fb,0,none⟩ (.string nm')) (some fb):=z06 W ⟨fb,0,none⟩ _
 exact ⟨h.pa.other hg (by omega) (by omega),z08 hg (by omega) h.cp,z0g h.gr hg (by omega),h.lo,A,c,L,z0f (i:=0) _ hr,ha.grown z0L hg (by omega)⟩
theorem FnP.line {w0 W:World} {p tb pbx fb:Nat} {nm:ByteArray} {ln:Int} {ps:List ByteArray} {s:PS} (h:FnP w0 p tb pbx fb nm ln ps s W) (ln':Int):FnP w0 p tb pbx fb nm ln' ps s (W.setCell ⟨fb,1,none⟩ (.int .i64 ln')):=by
 obtain ⟨h1,h2,h3,h4⟩:=h.lo
 obtain ⟨A,c,L,hr,ha⟩:=h.row
 have hg:W.grownBy (W.setCell ⟨fb,1,none⟩ (.int .i64 ln')) (some fb):=z06 W ⟨fb,1,none⟩ _
 exact ⟨h.pa.other hg (by omega) (by omega),z08 hg (by omega) h.cp,z0g h.gr hg (by omega),h.lo,A,c,L,z0f (i:=1) _ hr,ha.grown z0L hg (by omega)⟩
theorem FnP.push {w0 W w2:World} {p tb pbx fb g cap c:Nat} {nm y:ByteArray} {ln:Int} {ps:List ByteArray} {s:PS} {A:Option Addr} {cs L:List Value} (h:FnP w0 p tb pbx fb nm ln ps s W) (hr:W.heap[fb]?=some (.cells #[.string nm,.int .i64 ln,.slice A ps.length c,.slice none 0 0] 55 (0,0)))
  (h2:GRow 1 9 MStr (fb+1) w2 (.slice (some ⟨g,0,none⟩) (ps.length+1) cap) (ps++[y]) (L++cs)) (hb:Below (fb+1) W w2) :
  FnP w0 p tb pbx fb nm ln (ps++[y]) s (w2.setCell ⟨fb,2,none⟩ (.slice (some ⟨g,0,none⟩) (ps.length+1) cap)):=by
 obtain ⟨h1,h3,h4,h5⟩:=h.lo
 have hg:w2.grownBy (w2.setCell ⟨fb,2,none⟩ (.slice (some ⟨g,0,none⟩) (ps.length+1) cap)) (some fb):=z06 w2 ⟨fb,2,none⟩ _
 have hr2:=(hb.block fb (by omega)).trans hr
 refine ⟨(h.pa.low hb (by omega) (by omega)).other hg (by omega) (by omega),z08 hg (by omega) ((World.cell?_of_block (hb.block pbx (by omega))).trans h.cp),z0g (z17 h.gr hb (by omega)) hg (by omega),h.lo,some ⟨g,0,none⟩,cap,L++cs,?_,?_⟩
 ·have:=z0f (i:=2) (.slice (some ⟨g,0,none⟩) (ps.length+1) cap) hr2
  simpa using this
 ·have:=h2.grown z0L hg (by omega)
  simpa using this
def PmG (w0:World) (p tb pbx fb:Nat) (nm:ByteArray) (ln:Int) (s:PS) (ps:List ByteArray) (e:Ending) (W:World):Prop:=(∃ v,e=.returned v)∧FnP w0 p tb pbx fb nm ln ps s W
set_option maxRecDepth 100000 in
set_option maxHeartbeats 4000000 in
theorem z74 {w0:World} {p tb pbx fb:Nat} {nm:ByteArray} {ln:Int} {ps:List ByteArray} {s:PS} (W:World) (h:FnP w0 p tb pbx fb nm ln ps s W) (hlen:ps.length≤1000000) :
  Calls Tryz.prog 73 #[.pointer (some ⟨fb,0,none⟩),.pointer (some ⟨pbx,0,none⟩)] W (PmG w0 p tb pbx fb nm ln (z07 1 s).2 (ps++[nmB (z07 1 s).1.text])):=by
 have hlo:=h.lo
 have hfl:=h.flt
 obtain ⟨A,c,L,hr,hps⟩:=h.row
 have b2:=cell_of_row _ _ 2 _ _ _ hr
 have b0:=h.cp
 have H:=zhi h
 have HK:=zhi (z2T W.drew h.pa.drew)
 obtain ⟨t,ht⟩:∃ t,t=(z07 1 s).1.text:=⟨_,rfl⟩
 obtain ⟨s2,hs2⟩:∃ s2,s2=(z07 1 s).2:=⟨_,rfl⟩
 rw [← ht,← hs2] at HK ⊢
 have HR:=zhi hr
 have HPS:=zhi hps
 clear h hr hps ht hs2
 go_enter Tryz.func73,Tryz.ntmps73
 go_upto_region 0 with fail
 go_region_law
  (first
   | ((with_reducible refine z2Z (k:=1) (T:=9) (S:=46) (V:=MStr) w14 rfl (.tmp 3) (.tmp 6) rfl z0L (.string ⟨#[]⟩) 16 Tryz.underlying46 zd9 rfl (by decide) (by decide) (fb+1) (.slice A ps.length c) ps L (nmB t) [.string (nmB t)] (fun _=>False) rfl rfl HPS6.out hlen (by omega) rfl (zfy _) (zbl _ _ _) (fun b hb=>hb.elim) ?_); intro g8 cap8 w15 hps8 hg8 _; have hb8:=(z4O HPS6.out.own hg8 (by omega)); have hrow8:=((hb8.block fb (by omega)).trans HRow6.out); have q2:=(cell_of_row _ _ 2 _ _ _ hrow8); have g2:=(z0i hrow8 2); have HPS8:=zhi hps8; have HB8:=zhi hb8; clear hps8 hg8 hb8 hrow8)
   | (go_simp; go_at_call 69; (with_reducible refine HK.out.mono ?_); rintro e w14 ⟨rfl,hp6,hg6⟩; dsimp only; have hg6':=(z13 hg6); have hsw14:=hg6'.size; have hsl14:fb<w14.heap.size:=Nat.lt_of_lt_of_le hfl hg6'.size; have H14:=zhi (H.out.step hg6' hp6); have hrow6:=(z04 hg6' (by omega) HR.out); have d2:=(cell_of_row _ _ 2 _ _ _ hrow6); have d0:=H14.out.cp; have HRow6:=zhi hrow6; have HPS6:=zhi (HPS.out.grown z0L hg6' (by omega)); clear hg6 hg6' hp6 hrow6))
 all_goals
  have HE:=zhi (H14.out.push HRow6.out HPS8.out HB8.out)
  clear q2 g2
  go_wp2_with fail
  exact bodyPost_ret (results_none rfl _ _ _) rfl ⟨⟨_,rfl⟩,HE.out⟩
theorem z7O {n:Nat} {xs ps:List ByteArray} {s s':PS} (h:z1f n xs s=some (ps,s')) (hs:z0c [[44]] s=true):∃ m,n=m+1∧z1f m (xs++[nmB (z07 1 (popP s)).1.text]) (z07 1 (popP s)).2=some (ps,s'):=by
 cases n with
 | zero=>cases h
 | succ m=>simp only [z1f,hs,if_true] at h; exact ⟨m,rfl,h⟩
theorem z9J {n:Nat} {xs ps:List ByteArray} {s s':PS} (h:z1f n xs s=some (ps,s')) (hs:z0c [[44]] s=false):ps=xs∧s'=s:=by
 cases n with
 | zero=>cases h
 | succ m =>
  simp only [z1f,hs] at h
  injection h with h
  injection h with e1 e2
  exact ⟨e1.symm,e2.symm⟩
theorem z6g {s s':PS} {ps:List ByteArray} (h:z2i s=some (ps,s')):(z0c [[41]] s=true∧ps=[]∧s'=popP s)∨(z0c [[41]] s=false∧∃ s1,z1f (s.rest.length+1) [nmB (z07 1 s).1.text] (z07 1 s).2=some (ps,s1)∧s'=z09 [41] s1):=by
 unfold z2i at h
 cases hi:z0c [[41]] s with
 | true =>
  rw [if_pos hi] at h
  injection h with h
  injection h with e1 e2
  exact .inl ⟨rfl,e1.symm,e2.symm⟩
 | false =>
  rw [if_neg (by rw [hi]; decide)] at h
  cases hq:z1f (s.rest.length+1) [nmB (z07 1 s).1.text] (z07 1 s).2 with
  | none=>rw [hq] at h; cases h
  | some q =>
   obtain ⟨qs,s1⟩:=q
   rw [hq] at h
   injection h with h
   injection h with e1 e2
   subst e1
   exact .inr ⟨rfl,s1,rfl,e2.symm⟩
def LstF (w0:World) (p tb pbx fb:Nat) (nm:ByteArray) (ln:Int) (ps:List ByteArray) (s1:PS) (N:Nat) (wr:World):Prop:=∃ n xs s,FnP w0 p tb pbx fb nm ln xs s wr∧z1f n xs s=some (ps,s1)∧s.rest.length≤N∧xs.length+s.rest.length≤1000002
def PlG (w0:World) (p tb pbx fb:Nat) (nm:ByteArray) (ln:Int) (s:PS) (ps:List ByteArray) (N:Nat) (e:Ending) (W:World):Prop:=(∃ v,e=.returned v)∧FnP w0 p tb pbx fb nm ln ps s W∧s.rest.length≤N
set_option maxRecDepth 100000 in
set_option maxHeartbeats 2000000 in
theorem zbA {w0:World} {p tb pbx fb:Nat} {nm:ByteArray} {ln:Int} {ps:List ByteArray} {s s':PS} (W:World) (h:FnP w0 p tb pbx fb nm ln [] s W) (hL:z2i s=some (ps,s')) :
  Calls Tryz.prog 72 #[.pointer (some ⟨p,0,none⟩),.func (.func 73) #[] #[.pointer (some ⟨fb,0,none⟩),.pointer (some ⟨pbx,0,none⟩)]] W (PlG w0 p tb pbx fb nm ln s' ps s.rest.length):=by
 have hsm:=h.pa.sm
 rcases z6g hL with ⟨hs,rfl,rfl⟩ | ⟨hs,s1,hM,rfl⟩
 ·have h2:=z0t h.pa.wf (by decide) hs
  have HA:=zhi (z0n [41] ⟨#[41]⟩ W rfl (by decide) h.pa hs)
  have HCS:=zhi h
  clear h hL hs
  go_enter Tryz.func72,Tryz.ntmps72
  go_wp2_with fail
  refine HA.out.mono ?_
  rintro e w1 ⟨rfl,hp1,hg1⟩
  have HE:=zhi (HCS.out.step hg1 hp1)
  clear HA hp1 hg1
  go_wp2_with fail
  exact bodyPost_ret (results_none rfl _ _ _) rfl ⟨⟨_,rfl⟩,HE.out,by rw [z0h]; omega⟩
 ·have HA:=zhi (z0m [41] ⟨#[41]⟩ W rfl h.pa hs)
  have HCS:=zhi h
  have HM:=zhi hM
  have HSM:=zhi hsm
  have HLe:=zhi (z1h 1 s h.pa.wf.pos)
  clear h hL hs hM hsm
  go_enter Tryz.func72,Tryz.ntmps72
  go_wp2_with fail
  refine HA.out.mono ?_
  rintro e w1 ⟨rfl,hp1,hg1⟩
  have HC:=zhi (z74 w1 (HCS.out.step hg1 hp1) (by simp))
  clear HA hp1 hg1 HCS
  go_wp2_with fail
  refine HC.out.mono ?_
  rintro e w2 ⟨⟨v2,rfl⟩,hc2⟩
  have HC2:Hid (LstF w0 p tb pbx fb nm ln ps s1 s.rest.length w2):=zhi ⟨_,_,_,hc2,HM.out,HLe.out,by have:=HLe.out; have:=HSM.out; simp; omega⟩
  clear HC hc2 HM
  go_wp2_with fail
  go_loopw [] (fun wr=>LstF w0 p tb pbx fb nm ln ps s1 s.rest.length wr) (fun wr=>z0B wr p)
  case atStart=>exact HC2.out
  case round =>
   obtain ⟨n,xs1,s3,hcs,hm,hn3,hf3⟩:=hrel
   have HRL:=zhi hcs.pa.rest
   have HN3:=zhi hn3
   have HF3:=zhi hf3
   clear HC2 hn3 hf3
   cases hs:z0c [[44]] s3 with
   | true =>
    obtain ⟨m,rfl,hM3⟩:=z7O hm hs
    have h2:=z0t hcs.pa.wf (by decide) hs
    have HA:=zhi (z0n [44] ⟨#[44]⟩ wr rfl (by decide) hcs.pa hs)
    have HCS:=zhi hcs
    have HM3:=zhi hM3
    have HPL:=zhi (show (popP s3).rest.length+1=s3.rest.length by rw [z0h]; omega)
    have hx1:xs1.length≤1000000:=by have:=HF3.out; omega
    clear hcs hm hs hM3
    go_wp2_with fail
    refine HA.out.mono ?_
    rintro e w3 ⟨rfl,hp3,hg3⟩
    have HC:=zhi (z74 w3 (HCS.out.step hg3 hp3) hx1)
    have HLx:=zhi (z1h 1 (popP s3) hp3.wf.pos)
    clear HA hp3 hg3 HCS
    go_wp2_with fail
    refine HC.out.mono ?_
    rintro e w4 ⟨⟨v4,rfl⟩,hc4⟩
    have HE4:Hid (LstF w0 p tb pbx fb nm ln ps s1 s.rest.length w4∧z0B w4 p<z0B wr p):=zhi ⟨⟨_,_,_,hc4,HM3.out,by have:=HLx.out; have:=HPL.out; have:=HN3.out; omega,by have:=HLx.out; have:=HPL.out; have:=HF3.out; simp; omega⟩,by rw [hc4.pa.rest,HRL.out]; have:=HLx.out; have:=HPL.out; omega⟩
    clear HC hc4 HM3
    go_wp2_with fail
    exact HE4.out
   | false =>
    obtain ⟨rfl,rfl⟩:=z9J hm hs
    have HA:=zhi (z0m [44] ⟨#[44]⟩ wr rfl hcs.pa hs)
    have HCS:=zhi hcs
    clear hcs hm hs
    go_wp2_with fail
    refine HA.out.mono ?_
    rintro e w3 ⟨rfl,hp3,hg3⟩
    have HCS3:=zhi (HCS.out.step hg3 hp3)
    have HD:=zhi (z0r [41] ⟨#[41]⟩ w3 rfl (by decide) hp3)
    have HW:=zhi hp3.wf.pos
    clear HA hp3 hg3 HCS
    go_wp2_with fail
    refine HD.out.mono ?_
    rintro e w4 ⟨⟨v4,rfl⟩,hp4,hg4⟩
    have HE4:=zhi (HCS3.out.step hg4 hp4)
    have HLx:=zhi (z0q [41] s1 HW.out)
    clear HD hp4 hg4 HCS3
    go_wp2_with fail
    exact bodyPost_ret (results_none rfl _ _ _) rfl ⟨⟨_,rfl⟩,HE4.out,by have:=HLx.out; have:=HN3.out; omega⟩
theorem z5j {B:PSL} {s s':PS} {f:Fn} (h:z1b B s=some (f,s')):∃ ps s1 b,z2i (z09 [40] (z07 1 (z09 z4m s)).2)=some (ps,s1)∧B s1=some (b,s')∧f=⟨nmB (z07 1 (z09 z4m s)).1.text,((hdT s).line:Int),ps,b⟩:=by
 unfold z1b at h
 cases h1:z2i (z09 [40] (z07 1 (z09 z4m s)).2) with
 | none=>rw [h1] at h; cases h
 | some q =>
  obtain ⟨ps,s1⟩:=q
  rw [h1] at h
  dsimp only at h
  cases h2:B s1 with
  | none=>rw [h2] at h; cases h
  | some q2 =>
   obtain ⟨b,s2⟩:=q2
   rw [h2] at h
   injection h with h
   injection h with e1 e2
   subst e2
   exact ⟨ps,s1,b,rfl,h2,e1.symm⟩
def FnPG (p tb:Nat) (f:Fn) (s s':PS) (w:World) (e:Ending) (w':World):Prop:=∃ D d A m c bA bm bc,e=.returned (.agg #[.string f.name,.int .i64 f.line,.slice A m c,.slice bA bm bc])∧m=f.params.length∧bm=f.body.length ∧
 RowG 1 MStr (fun q=>w.heap.size≤q∧q<w'.heap.size) w' f.params A c∧RowS (fun q=>w.heap.size≤q∧q<w'.heap.size) w' D d f.body bA bc∧PA w' p tb s'∧w.grownBy w' (some p)∧s'.rest.length≤s.rest.length
theorem zf1 {p tb pbx fb Db db mb cb n0:Nat} {nm:ByteArray} {ln:Int} {ps:List ByteArray} {bd:List St} {s s':PS} {w wb w9:World} {Ab A:Option Addr} {c:Nat} {L:List Value} (h:FnP w p tb pbx fb nm ln ps s' wb) (hps0:GRow 1 9 MStr (fb+1) wb (.slice A ps.length c) ps L) (hmb:mb=bd.length) (hrb:RowS (fun q=>n0≤q∧q<wb.heap.size) wb Db db bd Ab cb) (hn0:fb<n0) (hl:s'.rest.length≤s.rest.length)
  (hg9:(wb.setCell ⟨fb,3,none⟩ (.slice Ab mb cb)).grownBy w9 (some fb)):FnPG p tb ⟨nm,ln,ps,bd⟩ s s' w (.returned (.agg #[.string nm,.int .i64 ln,.slice A ps.length c,.slice Ab mb cb])) w9:=by
 obtain ⟨h1,h2,h3,h4⟩:=h.lo
 have hg:wb.grownBy (wb.setCell ⟨fb,3,none⟩ (.slice Ab mb cb)) (some fb):=z06 wb ⟨fb,3,none⟩ _
 have hs:=hg.size
 have hs9:=hg9.size
 have hps:=((hps0.grown z0L hg (by omega)).grown z0L hg9 (by omega)).row z0L
 have hk:∀ q,n0≤q→q<wb.heap.size→w9.heap[q]?=wb.heap[q]?:=fun q h1 h2=>(hg9.block q (Nat.lt_of_lt_of_le h2 hs) (fun e=>by injection e with e; omega)).trans (hg.block q h2 (fun e=>by injection e with e; omega))
 have hra:=(h.pa.other hg (by omega) (by omega)).other hg9 (by omega) (by omega)
 exact ⟨Db,db,A,_,c,Ab,mb,cb,rfl,rfl,hmb,⟨hps.2.1,fun i x hi=>by
  obtain ⟨g,cs,q1,q2,q3,q4,q5⟩:=hps.2.2 i x hi
  exact ⟨g,cs,q1,⟨by omega,q2.2⟩,q3,q4,q5⟩⟩,RowS.keep (fun q hq=>⟨by omega,by omega⟩) (fun q hq=>hk q hq.1 hq.2) hrb,hra,z0g (z0g h.gr hg (by omega)) hg9 (by omega),hl⟩
theorem z8s {p tb:Nat} {s:PS} {w:World} {T:TypeId} {ln:Int} (h:PA w p tb s):FnP w p tb w.heap.size (w.heap.size+1) ⟨#[]⟩ ln [] s ((w.alloc (.cells #[.pointer (some ⟨p,0,none⟩)] T)).alloc (.cells #[.string ⟨#[]⟩,.int .i64 ln,.slice none 0 0,.slice none 0 0] 55)):=by
 have hb:=((Below.refl _ w).alloc (Nat.le_refl _) (.cells #[.pointer (some ⟨p,0,none⟩)] T)).alloc (by simp) (.cells #[.string ⟨#[]⟩,.int .i64 ln,.slice none 0 0,.slice none 0 0] 55)
 exact ⟨h.below hb,cell_of_row _ _ 0 _ _ _ (z0G w _ (.cells #[.string ⟨#[]⟩,.int .i64 ln,.slice none 0 0,.slice none 0 0] 55)),z01 hb _,⟨h.lt.1,h.lt.2.1,Nat.le_refl _,Nat.lt_succ_self _⟩,none,0,[],z0F w _ _,GRow.nil⟩
set_option maxRecDepth 100000 in
set_option maxHeartbeats 4000000 in
theorem z6W (B:PSL) (hbk:z98 74 B) (p tb:Nat) (s s':PS) (f:Fn) (w:World) (h:PA w p tb s) (hP:z1b B s=some (f,s')):Calls Tryz.prog 37 #[.pointer (some ⟨p,0,none⟩)] w (FnPG p tb f s s' w):=by
 obtain ⟨ps,s1,bd,hpar,hb,rfl⟩:=z5j hP
 have HPC:=zhi hpar
 have HQB:=zhi hb
 have HBK:=zhi hbk
 have c0:=h
 obtain ⟨off,c,m,hr⟩:=c0
 have hcap:=hr.cap
 have ba:=(((Below.refl _ w).alloc (Nat.le_refl _) (.cells #[.pointer (some ⟨p,0,none⟩)] 69)).alloc (by simp) zcx)
 have c0:=hold ba hr.cells.1
 have l0:=hold ba hr.hd.2.1
 have hplt:=hr.plt
 have H0:=zhi (z8s (T:=69) (ln:=((hdT s).line:Int)) h)
 have H9:=zhi (z8s (T:=69) (ln:=0) h)
 have cp0:=H9.out.cp
 unfold zcx at c0 l0
 have HLs:=zhi (z0q z4m s h.wf.pos)
 clear hbk hP hpar hb h hr ba H9
 go_enter Tryz.func37,Tryz.ntmps37
 go_upto_region 2 with fail
 obtain ⟨fb,hfb⟩:∃ fb,fb=w.heap.size+1:=⟨_,rfl⟩
 rw [← hfb] at H0 ⊢
 obtain ⟨pbx,hpbx⟩:∃ pbx,pbx=w.heap.size:=⟨_,rfl⟩
 rw [← hpbx] at H0 ⊢
 obtain ⟨wq,hwq⟩:∃ wq,wq=(w.alloc (.cells #[.pointer (some ⟨p,0,none⟩)] 69)).alloc (.cells #[.string { data:=#[] },.int .i64 ((hdT s).line:Int),.slice none 0 0,.slice none 0 0] 55):=⟨_,rfl⟩
 have H1:Hid (FnP w p tb pbx fb ⟨#[]⟩ ((hdT s).line:Int) [] s wq):=by rw [hwq]; exact H0
 rw [← hwq]
 clear hwq H0 c0 l0 hcap hplt cp0 hfb hpbx
 have cp1:=H1.out.cp
 have HD:=zhi (z0r z4m ⟨#[102,117,110,99]⟩ wq rfl (by decide) H1.out.pa)
 go_wp2_with fail
 clear cp1
 refine HD.out.mono ?_
 rintro e w1 ⟨⟨v1,rfl⟩,hp1,hg1⟩
 have H2:=zhi (H1.out.step hg1 hp1)
 have cp2:=H2.out.cp
 have HN:=zhi (z2T _ hp1)
 have HLn:=zhi (z1h 1 _ hp1.wf.pos)
 clear hp1 hg1 HD H1
 go_wp2_with fail
 clear cp2
 refine HN.out.mono ?_
 rintro e w2 ⟨rfl,hp2,hg2⟩
 have H3:=zhi (H2.out.step hg2 hp2)
 obtain ⟨A3,c3,L3,hrow3,_⟩:=H3.out.row
 have b0:=cell_of_row _ _ 0 _ _ _ hrow3
 have f0:=z0i hrow3 0
 have H4:=zhi (H3.out.name (nmB (z07 1 (z09 z4m s)).1.text))
 have cp4:=H4.out.cp
 have HD:=zhi (z0r [40] ⟨#[40]⟩ _ rfl (by decide) H4.out.pa)
 have HLd:=zhi (z0q [40] _ H4.out.pa.wf.pos)
 clear hp2 hg2 HN H2 H3 hrow3
 go_wp2_with fail
 clear cp4 b0 f0
 refine HD.out.mono ?_
 rintro e w5 ⟨⟨v5,rfl⟩,hp5,hg5⟩
 have H5:=zhi (H4.out.step hg5 hp5)
 have cp5:=H5.out.cp
 have HPL:=zhi (zbA w5 H5.out HPC.out)
 clear hp5 hg5 HD H4
 go_wp2_with fail
 clear cp5
 refine HPL.out.mono ?_
 rintro e w6 ⟨⟨v6,rfl⟩,hf6,hl6⟩
 have H6:=zhi hf6
 have HL6:=zhi hl6
 have cp6:=hf6.cp
 have HBc:=zhi (HBK.out p tb _ s' bd w6 hf6.pa HQB.out)
 clear hf6 hl6 HPL H5
 go_wp2_with fail
 clear cp6
 refine HBc.out.mono ?_
 rintro e wb ⟨Db,db,Ab,mb,cb,rfl,hmb,hrb,hpb,hgb,hlb⟩
 have hlo:=H6.out.lo
 have hfl:=H6.out.flt
 have HB:=zhi (H6.out.step hgb hpb)
 have HRb:=zhi hrb
 have HMb:=zhi hmb
 have HLb:=zhi hlb
 obtain ⟨A,cc,L,hrow,hps⟩:=HB.out.row
 have HPS:=zhi hps
 have hb3:=z0f (i:=3) (.slice Ab mb cb) hrow
 have b3:=cell_of_row _ _ 3 _ _ _ hrow
 have f3:=z0i hrow 3
 clear hmb hrb hpb hgb hlb HBc H6 hrow hps
 go_upto_region 7 with fail
 clear b3 f3
 obtain ⟨wz,hwz⟩:∃ wz,wz=wb.setCell ⟨fb,3,none⟩ (.slice Ab mb cb):=⟨_,rfl⟩
 have hrz:wz.heap[fb]?=some (.cells #[.string (nmB (z07 1 (z09 z4m s)).1.text),.int .i64 ((hdT s).line:Int),.slice A ps.length cc,.slice Ab mb cb] 55 (0,0)):=by rw [hwz]; exact hb3
 have HWZ:=zhi hwz
 rw [← hwz]
 clear hb3 hwz
 obtain ⟨j0,j1,j2,j3⟩:=cl4 hrz
 have HRZ:=zhi hrz
 clear hrz
 go_wp2_with (with_reducible refine zdG ?_)
 refine z0a.of (z00 _ rfl _ _ _ rfl fb _ rfl (by rfl) _ _ HRZ.out (by kernel_rfl) (by rfl) (by simp [Value.oneCell']) ?_)
 intro w9 hrow9 hg9
 clear j0 j1 j2 j3
 obtain ⟨j0,j1,j2,j3⟩:=cl4 hrow9
 rw [HWZ.out] at hg9
 have HH:=zhi (zf1 (s:=s) HB.out HPS.out HMb.out HRb.out hfl (by have:=HLb.out; have:=HL6.out; have:=HLd.out; have:=HLn.out; have:=HLs.out; omega) hg9)
 clear hrow9 hg9
 go_wp2_with fail
 exact bodyPost_ret (by simp [results,Tryz.results37,go_sem,j0,j1,j2,j3]) rfl HH.out
end Go.Proofs.YtdplfnemedckaaaGreatDoor
namespace Go.Proofs.YtdplfnemedckaaaGreatDoor
open Go.RowKit
theorem PR.setout {w:World} {p tb off c n:Nat} {s:PS} (r:Nat) (h:PR w p tb off c n s):PR (w.setCell ⟨p,2,none⟩ (.int .i64 (r:Int))) p tb off c n { s with out:=r }:=by
 obtain ⟨T,hr⟩:=h.row
 exact ⟨h.wf,h.ne,h.len,h.cap,h.sm,⟨T,z0f (i:=2) (.int .i64 (r:Int)) hr⟩,fun k t hk=>(h.tok k t hk).keep ((z06 w ⟨p,2,none⟩ _).block tb h.tlt (fun e=>by injection e with e; exact h.ne e))⟩
theorem z9I (t:Tok) (s:PS):((s.out=0∧(t.value<1∨1024<t.value))∧outP t s={ s with out:=t.line })∨(¬ (s.out=0∧(t.value<1∨1024<t.value))∧outP t s=s):=by
 unfold outP
 split
 ·exact .inl ⟨by assumption,rfl⟩
 ·exact .inr ⟨by assumption,rfl⟩
def SzG (p tb:Nat) (v:Int) (s':PS) (w:World) (e:Ending) (w':World):Prop:=e=.returned (.int .i64 v)∧PA w' p tb s'∧w.grownBy w' (some p)
set_option maxRecDepth 100000 in
set_option maxHeartbeats 2000000 in
theorem zdO {p tb:Nat} {s:PS} (w:World) (h:PA w p tb s):Calls Tryz.prog 71 #[.pointer (some ⟨p,0,none⟩)] w (SzG p tb (z3w s).1 (z3w s).2 w):=by
 have HE:=zhi (z5s 2 2 rfl w h (by decide))
 unfold z3w
 generalize (z07 2 s).1=t at *
 generalize (z07 2 s).2=s2 at *
 dsimp only
 clear h
 go_enter Tryz.func71,Tryz.ntmps71
 go_wp2_with fail
 refine HE.out.mono ?_
 rintro e w5 ⟨rfl,hp5,hg5⟩
 unfold tokV
 have hbt:=(Below.refl _ w5).alloc (Nat.le_refl _) (.cells #[.int .i64 (t.kind:Int),.int .i64 (t.line:Int),.int .i64 (t.value:Int),.string (nmB t.text)] 99)
 have ht5:=heap_alloc_new w5 (.cells #[.int .i64 (t.kind:Int),.int .i64 (t.line:Int),.int .i64 (t.value:Int),.string (nmB t.text)] 99)
 have r1:=cell_of_row _ _ 1 _ _ _ ht5
 have r2:=cell_of_row _ _ 2 _ _ _ ht5
 have hP:=hp5.below hbt
 have HG:=zhi (hg5.trans (z01 hbt (some p)))
 have plt:=hp5.lt.1
 have HP:=zhi hP
 have HG5:=zhi hg5
 obtain ⟨a,c,N,hr⟩:=hp5
 have c2:=hr.cells.2.2.1
 have f2:=hr.cells.2.2.2 2
 have c2':=hold hbt c2
 have HRR:=zhi hr
 clear hP hg5 hbt ht5 HE hr
 have HSC:=zhi (z9I t s2)
 rcases HSC.out with ⟨⟨ho,hval⟩,hsz⟩ | ⟨hno,hsz⟩
 ·rw [ho] at c2 c2'
  have hq:w5.grownBy (w5.setCell ⟨p,2,none⟩ (.int .i64 (t.line:Int))) (some p):=z06 _ ⟨p,2,none⟩ _
  have hbt:=(Below.refl _ (w5.setCell ⟨p,2,none⟩ (.int .i64 (t.line:Int)))).alloc (Nat.le_refl _) (.cells #[.int .i64 (t.kind:Int),.int .i64 (t.line:Int),.int .i64 (t.value:Int),.string (nmB t.text)] 99)
  have ht6:=heap_alloc_new (w5.setCell ⟨p,2,none⟩ (.int .i64 (t.line:Int))) (.cells #[.int .i64 (t.kind:Int),.int .i64 (t.line:Int),.int .i64 (t.value:Int),.string (nmB t.text)] 99)
  have hsz5:(w5.setCell ⟨p,2,none⟩ (.int .i64 (t.line:Int))).heap.size=w5.heap.size:=by simp [World.setCell]
  rw [hsz5] at ht6
  have q2:=cell_of_row _ _ 2 _ _ _ ht6
  have HEND:Hid (SzG p tb (t.value:Int) (outP t s2) w (.returned (.int .i64 (t.value:Int))) ((w5.setCell ⟨p,2,none⟩ (.int .i64 (t.line:Int))).alloc (.cells #[.int .i64 (t.kind:Int),.int .i64 (t.line:Int),.int .i64 (t.value:Int),.string (nmB t.text)] 99))):=zhi ⟨rfl,by rw [hsz]; exact PA.below ⟨_,_,_,HRR.out.setout _⟩ hbt,(HG5.out.trans hq).trans (z01 hbt _)⟩
  clear hq ht6 ho hsz HSC hbt hsz5
  rcases hval with hval | hval
  ·have hval':(t.value:Int)<1:=by omega
   clear hval
   go_wp2_with fail
   go_ret
   exact HEND.out
  ·have hval':1024<(t.value:Int):=by omega
   clear hval
   go_wp2_with fail
   go_ret
   exact HEND.out
 ·have HEND:Hid (SzG p tb (t.value:Int) (outP t s2) w (.returned (.int .i64 (t.value:Int))) (w5.alloc (.cells #[.int .i64 (t.kind:Int),.int .i64 (t.line:Int),.int .i64 (t.value:Int),.string (nmB t.text)] 99))):=zhi ⟨rfl,by rw [hsz]; exact HP.out,HG.out⟩
  clear HSC hsz
  by_cases ho:s2.out=0
  ·rw [ho] at c2 c2'
   have hv1:¬ (t.value:Int)<1:=fun h=>hno ⟨ho,.inl (by omega)⟩
   have hv2:¬ 1024<(t.value:Int):=fun h=>hno ⟨ho,.inr (by omega)⟩
   clear hno ho
   go_wp2_with fail
   go_ret
   exact HEND.out
  ·have hne:((s2.out:Int) == 0)=false:=by simp; omega
   clear hno ho
   go_wp2_with fail
   go_ret
   exact HEND.out
theorem zdP (s:PS) (h:0<s.rest.length):(z3w s).2.rest.length≤s.rest.length:=by
 have h1:=z1h 2 s h
 show (outP (z07 2 s).1 (z07 2 s).2).rest.length≤s.rest.length
 unfold outP
 split <;> exact h1
structure GlP (p tb gb:Nat) (nm:ByteArray) (sz:Int) (s:PS) (w wr:World):Prop where
 pa:PA wr p tb s
 gr:w.grownBy wr (some p)
 lo:p<w.heap.size∧tb<w.heap.size∧w.heap.size≤gb
 row:wr.heap[gb]?=some (.cells #[.string nm,.int .i64 sz] 52 (0,0))
section
variable {p tb gb:Nat} {nm:ByteArray} {sz:Int} {s s':PS} {w wr w':World}
theorem GlP.step (h:GlP p tb gb nm sz s w wr) (hg:wr.grownBy w' (some p)) (ha:PA w' p tb s'):GlP p tb gb nm sz s' w w':=by
 obtain ⟨h1,h2,h3⟩:=h.lo
 exact ⟨ha,h.gr.trans hg,h.lo,z04 hg (by omega) h.row⟩
theorem GlP.size (h:GlP p tb gb nm sz s w wr) (sz':Int):GlP p tb gb nm sz' s w (wr.setCell ⟨gb,1,none⟩ (.int .i64 sz')):=by
 obtain ⟨h1,h2,h3⟩:=h.lo
 have hg:wr.grownBy (wr.setCell ⟨gb,1,none⟩ (.int .i64 sz')) (some gb):=z06 wr ⟨gb,1,none⟩ _
 exact ⟨h.pa.other hg (by omega) (by omega),z0g h.gr hg (by omega),h.lo,z0f (i:=1) (.int .i64 sz') h.row⟩
theorem GlP.name (h:GlP p tb gb nm sz s w wr) (nm':ByteArray):GlP p tb gb nm' sz s w (wr.setCell ⟨gb,0,none⟩ (.string nm')):=by
 obtain ⟨h1,h2,h3⟩:=h.lo
 have hg:wr.grownBy (wr.setCell ⟨gb,0,none⟩ (.string nm')) (some gb):=z06 wr ⟨gb,0,none⟩ _
 exact ⟨h.pa.other hg (by omega) (by omega),z0g h.gr hg (by omega),h.lo,z0f (i:=0) (.string nm') h.row⟩
end
def GlPG (p tb:Nat) (g:ByteArray × Int) (s s':PS) (w:World) (e:Ending) (w':World):Prop:=e=.returned (.agg #[.string g.1,.int .i64 g.2])∧PA w' p tb s'∧w.grownBy w' (some p)∧s'.rest.length≤s.rest.length
theorem zaQ {p tb gb:Nat} {nm:ByteArray} {sz:Int} {s s':PS} {w wr w9:World} {G:(ByteArray × Int) × PS} (hG:G=((nm,sz),s')) (h:GlP p tb gb nm sz s' w wr) (hl:s'.rest.length≤s.rest.length) (hg9:wr.grownBy w9 (some gb)):GlPG p tb G.1 s G.2 w (.returned (.agg #[.string nm,.int .i64 sz])) w9:=by
 subst hG
 obtain ⟨h1,h2,h3⟩:=h.lo
 exact ⟨rfl,h.pa.other hg9 (by omega) (by omega),z0g h.gr hg9 h3,hl⟩
set_option maxRecDepth 100000 in
set_option maxHeartbeats 4000000 in
theorem z9p (p tb:Nat) (s:PS) (w:World) (h:PA w p tb s):Calls Tryz.prog 36 #[.pointer (some ⟨p,0,none⟩)] w (GlPG p tb (z1l s).1 s (z1l s).2 w):=by
 have hba:=(Below.refl _ w).alloc (Nat.le_refl _) z7n
 have H0:Hid (GlP p tb w.heap.size ⟨#[]⟩ 0 s w (w.alloc z7n)):=zhi ⟨h.below hba,z01 hba _,⟨h.lt.1,h.lt.2.1,Nat.le_refl _⟩,heap_alloc_new w z7n⟩
 unfold z7n at H0
 have HD:=zhi (z0r z0I ⟨#[103,108,111,98,97,108]⟩ _ rfl (by decide) H0.out.pa)
 have HLg:=zhi (z0q z0I s h.wf.pos)
 obtain ⟨s1,hs1⟩:∃ s1,s1=z09 z0I s:=⟨_,rfl⟩
 have HGR0:Hid (z1l s=if z0c [[91]] (z07 1 s1).2 then ((nmB (z07 1 s1).1.text,(z3w (popP (z07 1 s1).2)).1),z09 [59] (z09 [93] (z3w (popP (z07 1 s1).2)).2)) else ((nmB (z07 1 s1).1.text,0),z09 [59] (z07 1 s1).2)):=zhi (by rw [hs1]; rfl)
 rw [← hs1] at HD HLg
 clear h hba hs1
 go_enter Tryz.func36,Tryz.ntmps36
 go_wp2_with fail
 refine HD.out.mono ?_
 rintro e w1 ⟨⟨v1,rfl⟩,hp1,hg1⟩
 have H1:=zhi (H0.out.step hg1 hp1)
 have HN:=zhi (z2T _ hp1)
 have HLn:=zhi (z1h 1 _ hp1.wf.pos)
 clear hp1 hg1 HD H0
 go_wp2_with fail
 refine HN.out.mono ?_
 rintro e w2 ⟨rfl,hp2,hg2⟩
 have H2:=zhi (H1.out.step hg2 hp2)
 have hrow2:=H2.out.row
 have b0:=cell_of_row _ _ 0 _ _ _ hrow2
 have f0:=z0i hrow2 0
 have H3:=zhi (H2.out.name (nmB (z07 1 s1).1.text))
 clear hp2 hg2 HN H1 H2 hrow2
 cases hs:z0c [[91]] (z07 1 s1).2 with
 | true =>
  have HA:=zhi (z0n [91] ⟨#[91]⟩ _ rfl (by decide) H3.out.pa hs)
  have HGR:=zhi (HGR0.out.trans (if_pos hs))
  have HPL:=zhi (z0h (z07 1 s1).2)
  clear hs HGR0
  go_wp2_with fail
  clear b0 f0
  refine HA.out.mono ?_
  rintro e w4 ⟨rfl,hp4,hg4⟩
  have H4:=zhi (H3.out.step hg4 hp4)
  have HS:=zhi (zdO w4 hp4)
  have HLs:=zhi (zdP _ hp4.wf.pos)
  clear hp4 hg4 HA H3
  go_wp2_with fail
  refine HS.out.mono ?_
  rintro e w5 ⟨rfl,hp5,hg5⟩
  have H5:=zhi (H4.out.step hg5 hp5)
  have hrow5:=H5.out.row
  have b1:=cell_of_row _ _ 1 _ _ _ hrow5
  have f1:=z0i hrow5 1
  have H6:=zhi (H5.out.size (z3w (popP (z07 1 s1).2)).1)
  have HD:=zhi (z0r [93] ⟨#[93]⟩ _ rfl (by decide) H6.out.pa)
  have HL93:=zhi (z0q [93] _ H6.out.pa.wf.pos)
  clear hp5 hg5 HS H4 H5 hrow5
  go_wp2_with fail
  clear b1 f1
  refine HD.out.mono ?_
  rintro e w7 ⟨⟨v7,rfl⟩,hp7,hg7⟩
  have H7:=zhi (H6.out.step hg7 hp7)
  have HD2:=zhi (z0r [59] ⟨#[59]⟩ _ rfl (by decide) H7.out.pa)
  have HL59:=zhi (z0q [59] _ H7.out.pa.wf.pos)
  clear hp7 hg7 HD H6
  go_wp2_with fail
  refine HD2.out.mono ?_
  rintro e w8 ⟨⟨v8,rfl⟩,hp8,hg8⟩
  have H:=zhi (H7.out.step hg8 hp8)
  have HL:=zhi (show (z09 [59] (z09 [93] (z3w (popP (z07 1 s1).2)).2)).rest.length≤s.rest.length by
   have h1:=HL59.out
   have h2:=HL93.out
   have h3:=HLs.out
   have h4:=HPL.out
   have h5:=HLn.out
   have h6:=HLg.out
   omega)
  clear hp8 hg8 HD2 H7
  have hrow:=H.out.row
  obtain ⟨b0,b1⟩:=cl2 hrow
  clear hrow
  go_wp2_with (with_reducible refine z8N ?_)
  refine z0a.of (z00 _ rfl _ _ _ rfl w.heap.size _ rfl (by rfl) _ _ H.out.row (by kernel_rfl) (by rfl) (by simp [Value.oneCell']) ?_)
  intro w9 hrow9 hg9
  obtain ⟨j0,j1⟩:=cl2 hrow9
  have HH:=zhi (zaQ (s:=s) HGR.out H.out HL.out hg9)
  clear hrow9 hg9 b0 b1
  go_wp2_with fail
  exact bodyPost_ret (by simp [results,Tryz.results36,go_sem,j0,j1]) rfl HH.out
 | false =>
  have HA:=zhi (z0m [91] ⟨#[91]⟩ _ rfl H3.out.pa hs)
  have HGR:=zhi (HGR0.out.trans (if_neg (by rw [hs]; decide)))
  clear hs HGR0
  go_wp2_with fail
  clear b0 f0
  refine HA.out.mono ?_
  rintro e w4 ⟨rfl,hp4,hg4⟩
  have H7:=zhi (H3.out.step hg4 hp4)
  have HD2:=zhi (z0r [59] ⟨#[59]⟩ _ rfl (by decide) H7.out.pa)
  have HL59:=zhi (z0q [59] _ H7.out.pa.wf.pos)
  clear hp4 hg4 HA H3
  go_wp2_with fail
  refine HD2.out.mono ?_
  rintro e w8 ⟨⟨v8,rfl⟩,hp8,hg8⟩
  have H:=zhi (H7.out.step hg8 hp8)
  have HL:=zhi (show (z09 [59] (z07 1 s1).2).rest.length≤s.rest.length by
   have h1:=HL59.out
   have h5:=HLn.out
   have h6:=HLg.out
   omega)
  clear hp8 hg8 HD2 H7
  have hrow:=H.out.row
  obtain ⟨b0,b1⟩:=cl2 hrow
  clear hrow
  go_wp2_with (with_reducible refine z8N ?_)
  refine z0a.of (z00 _ rfl _ _ _ rfl w.heap.size _ rfl (by rfl) _ _ H.out.row (by kernel_rfl) (by rfl) (by simp [Value.oneCell']) ?_)
  intro w9 hrow9 hg9
  obtain ⟨j0,j1⟩:=cl2 hrow9
  have HH:=zhi (zaQ (s:=s) HGR.out H.out HL.out hg9)
  clear hrow9 hg9 b0 b1
  go_wp2_with fail
  exact bodyPost_ret (by simp [results,Tryz.results36,go_sem,j0,j1]) rfl HH.out
end Go.Proofs.YtdplfnemedckaaaGreatDoor
