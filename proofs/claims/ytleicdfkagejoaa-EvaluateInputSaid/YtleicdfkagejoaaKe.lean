/-
  Ke: RpCall, RpDone. Walks and laws that the statement's proof is made of. No condition of its own.
-/
import Derived.Test.YtleicdfkagejoaaKda
import Derived.Test.YtleicdfkagejoaaKc
namespace Go.Proofs.Ytleicdfkagejoaa
open Go.RowKit
set_option maxRecDepth 100000 in
set_option maxHeartbeats 8000000 in
theorem zaD (E:R1) (he:SubR 85 E):SubR 98 (z40 E):=by
 intro p tb s s' x w h hP
 obtain ⟨x1,s1,n1,hp1,hloop⟩:=z4R hP
 have HE0:=zhi he
 have HPR:=zhi (z9D E he)
 have HN:=zhi (z3w (w.alloc (.cells #[.int .i64 0,.int .i64 0,.int .i64 0,.int .i64 0,.string { data:=#[] },.slice none 0 0] 112)) (h.alloc _))
 have HA:=zhi h
 have HP1:=zhi hp1
 have HL:=zhi hloop
 have plt:=h.lt.1
 have tlt:=h.lt.2.1
 have hb0:=(Below.refl _ w).alloc (Nat.le_refl _) (.cells #[.int .i64 0,.int .i64 0,.int .i64 0,.int .i64 0,.string { data:=#[] },.slice none 0 0] 112)
 have HZ0:=zhi (heap_alloc_new w (.cells #[.int .i64 0,.int .i64 0,.int .i64 0,.int .i64 0,.string { data:=#[] },.slice none 0 0] 112))
 have HB0:=zhi hb0
 clear he hP hp1 hloop h hb0
 go_enter Try.func98,Try.ntmps98
 go_wp2_with fail
 refine HN.out.mono ?_
 rintro e w1 ⟨rfl,hb1⟩
 unfold z1C
 have hsz1:w.heap.size+1≤w1.heap.size:=by have:=hb1.size; simpa using this
 have hbt:=(Below.refl _ w1).alloc (Nat.le_refl _) (.cells #[.int .i64 ((hdR s).kind:Int),.int .i64 ((hdR s).line:Int),.int .i64 ((hdR s).value:Int),.string (nmB (hdR s).text)] 98)
 have hbw:=(HB0.out.trans (hb1.mono (by simp))).trans (hbt.mono (by omega))
 have HG2:=zhi (z02 hbw (some p))
 have HZ2:=zhi ((hbt.block w.heap.size (by omega)).trans ((hb1.block _ (by simp)).trans HZ0.out))
 have HT2:=zhi (heap_alloc_new w1 (.cells #[.int .i64 ((hdR s).kind:Int),.int .i64 ((hdR s).line:Int),.int .i64 ((hdR s).value:Int),.string (nmB (hdR s).text)] 98))
 have hsz2:w1.heap.size<(w1.alloc (.cells #[.int .i64 ((hdR s).kind:Int),.int .i64 ((hdR s).line:Int),.int .i64 ((hdR s).value:Int),.string (nmB (hdR s).text)] 98)).heap.size:=by simp
 have HC1:=zhi (HPR.out p tb s s1 x1 _ (HA.out.below hbw) HP1.out)
 clear hb1 HN hbt HZ0 HB0 hbw HPR HA HP1
 go_wp2_with fail
 obtain ⟨ub,hub⟩:∃ ub,ub=w1.heap.size:=⟨_,rfl⟩
 rw [← hub] at HT2 hsz1 hsz2 ⊢
 generalize w1.alloc (.cells #[.int .i64 ((hdR s).kind:Int),.int .i64 ((hdR s).line:Int),.int .i64 ((hdR s).value:Int),.string (nmB (hdR s).text)] 98)=w2 at *
 clear hub
 refine HC1.out.mono ?_
 rintro e w3 ⟨d1,k1,o1,a1,l1,t1,A1,n2,c1,rfl,hv1,hp3,hg3,hl1⟩
 have hba:=(Below.refl _ w3).alloc (Nat.le_refl _) (.cells #[.int .i64 k1,.int .i64 o1,.int .i64 a1,.int .i64 l1,.string t1,.slice A1 n2 c1] 112)
 have hsz3:=hg3.size
 have HR:Hid (CalR E (decide ((hdR s).kind=1)) p tb ub w3.heap.size (hdR s) x s s' w (w3.alloc (.cells #[.int .i64 k1,.int .i64 o1,.int .i64 a1,.int .i64 l1,.string t1,.slice A1 n2 c1] 112))):=zhi ⟨n1,x1,s1,HL.out,zal (by omega) (hv1.keep (fun q hq=>⟨by omega,hq.2⟩) (fun _ _=>rfl)),hp3.alloc _,(HG2.out.trans hg3).trans (z02 hba _),(hba.block _ (by omega)).trans (z04 hg3 (by omega) HZ2.out),(hba.block _ (by omega)).trans (z04 hg3 (by omega) HT2.out),hl1⟩
 clear HC1 HL hv1 hp3 hg3 hl1 hba HG2 HZ2 HT2
 go_wp2_with fail
 obtain ⟨xb,hxb⟩:∃ xb,xb=w3.heap.size:=⟨_,rfl⟩
 rw [← hxb] at HR hsz3 ⊢
 clear hxb
 go_loopw [5,6] (fun _ _ wr=>CalR E (decide ((hdR s).kind=1)) p tb ub xb (hdR s) x s s' w wr) (fun _ _ wr=>z0z wr p)
 case atStart=>exact HR.out
 case round =>
  obtain ⟨n,xx,ss,hloop,hx,hp,hg,hz,hu,hl⟩:=hrel
  clear HR
  obtain ⟨wo,rfl⟩:∃ wo:World,wo=wr:=⟨_,rfl⟩
  have HRL:=zhi hp.rest
  have HI:=zhi (is_r [40] wo hp)
  have HX:=zhi hx
  have HP:=zhi hp
  have HG:=zhi hg
  have HZ:=zhi hz
  have HU:=zhi hu
  have Hl:=zhi hl
  have HLP:=zhi hloop
  have hszr:=hg.size
  clear hloop hx hp hg hz hl hu
  go_wp2_with fail
  refine HI.out.mono ?_
  rintro e w2 ⟨rfl,hb2⟩
  have HP2:=zhi (HP.out.below hb2)
  have HX2:=zhi (HX.out.below hb2)
  have HG2:=zhi (HG.out.trans (z02 hb2 _))
  have HZ2:=zhi ((hb2.block _ (Array.getElem?_eq_some_iff.1 HZ.out).1).trans HZ.out)
  have HU2:=zhi ((hb2.block _ (Array.getElem?_eq_some_iff.1 HU.out).1).trans HU.out)
  clear hb2 HI HX HP HG HZ HU
  cases hs:isR [40] ss with
  | true =>
   obtain ⟨m0,ys,sq,hargs,hcalls⟩:=z7z HLP.out hs
   have HNow:=zhi (z3w w2 HP2.out)
   have HCL:=zhi hcalls
   have HAC:=zhi (z6c hargs)
   have HV:=zhi hs
   clear hargs hcalls hs HLP
   go_wp2_with fail
   refine HNow.out.mono ?_
   rintro e w3 ⟨rfl,hb3⟩
   obtain ⟨a,c,N,hr⟩:=HP2.out.below hb3
   have e1:=hr.cells.2.1
   have f1:=hr.cells.2.2.2.2 1
   have hsm:=hr.sm
   have hlt2:=hr.lt
   have hgs:w3.grownBy (w3.setCell ⟨p,1,none⟩ (.int .i64 ((a:Int)+1))) (some p):=z05 w3 ⟨p,1,none⟩ (.int .i64 ((a:Int)+1))
   have h2:=z1B hr.wf HV.out
   have hp4:RA (w3.setCell ⟨p,1,none⟩ (.int .i64 ((a:Int)+1))) p tb (popR ss):=⟨_,_,_,hr.popSet h2⟩
   have HA4:=zhi (z0F [41] _ hp4)
   have HX4:=zhi ((HX2.out.below hb3).grown hgs (by omega))
   have hg4:=(HG2.out.trans (z02 hb3 _)).trans hgs
   have HG4:=zhi hg4
   have HZ4:=zhi (z04 hgs (by omega) ((hb3.block _ (Array.getElem?_eq_some_iff.1 HZ2.out).1).trans HZ2.out))
   have HU4:=zhi (z04 hgs (by omega) ((hb3.block _ (Array.getElem?_eq_some_iff.1 HU2.out).1).trans HU2.out))
   have hsz4:=hg4.size
   have h2':2≤ss.rest.length:=h2
   have H2:=zhi h2'
   have hsmr:=hp4.sm
   have HSM:=zhi hsmr
   unfold z1C
   have hfd:∀ w:World,(Instr.field 98 (.agg #[.int .i64 ((hdR ss).kind:Int),.int .i64 ((hdR ss).line:Int),.int .i64 ((hdR ss).value:Int),.string (nmB (hdR ss).text)]) 1).run Try.prog w=.ok (.int .i64 ((hdR ss).line:Int)) w:=fun _=>by kernel_rfl
   clear hr hgs HNow hb3 h2 h2' hg4 HP2 HX2 HG2 HZ2 HU2 hp4 hsmr
   go_wp2_with fail
   clear e1 f1 hfd
   generalize w3.setCell ⟨p,1,none⟩ (.int .i64 ((a:Int)+1))=w4 at *
   refine HA4.out.mono ?_
   rintro e w5 ⟨rfl,hp5,hg5⟩
   have HX5:=zhi (HX4.out.grown hg5 (by omega))
   obtain ⟨bs,hbs⟩:∃ bs,bs=w5.heap.size:=⟨_,rfl⟩
   have hxl:xb<bs:=by rw [hbs]; exact HX5.out.lt
   have HG5:=zhi (HG4.out.trans hg5)
   have HZ5:=zhi (z04 hg5 (by omega) HZ4.out)
   have HU5:=zhi (z04 hg5 (by omega) HU4.out)
   have hsz5:=hg5.size
   clear HA4 hg5 HX4 HG4 HZ4 HU4
   rcases HAC.out with ⟨hv,rfl,rfl⟩ | ⟨hv,y,sy,n3,hq,hmore⟩
   ·rw [z0D hv] at hp5
    have HXt:=HX5
    have HPt:=zhi hp5
    have HGt:=HG5
    have HZt:=HZ5
    have HUt:=HU5
    have Hlt:=zhi (show (popR (popR ss)).rest.length≤s.rest.length by rw [z0j,z0j]; have:=Hl.out; omega)
    have Hls:=zhi (show (popR (popR ss)).rest.length<ss.rest.length by rw [z0j,z0j]; have:=H2.out; omega)
    have HAr:=zhi (z0o.nil bs 0 w5)
    have Hys:Hid (([]:List Ex).length≤1000000):=zhi (by simp)
    clear hp5 HAC H2 HSM HV
    obtain ⟨hxlo,dx,kx,ox,ax,lx,tx,Ax,nx,cx,rx,vx⟩:=HXt.out
    have xlt:=(Array.getElem?_eq_some_iff.1 rx).1
    obtain ⟨a0,a1,a2,a3,a4,a5⟩:=cl6 rx
    have b0:=cell_of_row _ _ 0 _ _ _ HUt.out
    have RX:=zhi rx
    have VX:=zhi vx
    have SAME:=zhi (z6T vx)
    clear rx vx HXt
    by_cases hk:kx=13∧(hdR s).kind=1
    ·obtain ⟨hk,hk1⟩:=hk
     rw [hk] at a0
     rw [hk1] at b0
     have HCL2:=zhi (show z1U E (decide ((hdR s).kind=1)) m0 (.mk 9 0 0 ((hdR ss).line:Int) tx []) (popR (popR ss))=some (x,s') by
      have h:=HCL.out
      rw [z7w,if_pos ⟨by rw [SAME.out.1]; exact hk,by simp [hk1]⟩,SAME.out.2] at h
      exact h)
     clear hk hk1
     go_wp2_with (with_reducible refine z0B ?_)
     refine z08.of (z00 _ rfl _ _ _ rfl xb _ rfl (by rfl) _ _ RX.out (by kernel_rfl) (by rfl) (by simp [Value.oneCell']) ?_)
     intro w9 hrow9 hg9
     have hst:=z2F (s:=s) (tk:=hdR s) (ub:=ub) HCL2.out hxlo plt tlt (by omega) (show ExV (fun q=>w.heap.size+1≤q∧q<w5.heap.size∧q≠xb) w5 (0+1) (.mk 9 0 0 ((hdR ss).line:Int) tx []) _ from ⟨none,0,rfl,(HAr.out.row.2).keep (fun q hq=>⟨by omega,hq.2,by omega⟩) (fun _ _=>rfl)⟩) HPt.out HGt.out HZt.out HUt.out Hlt.out hrow9 hg9
     have HE:=zhi (And.intro hst.1 (Nat.lt_of_le_of_lt (Nat.le_of_eq hst.2) (show (popR (popR ss)).rest.length<z0z wo p by rw [HRL.out]; exact Hls.out)))
     clear hst hrow9 hg9 a0 a1 a2 a3 a4 a5 b0
     go_wp2_with fail
     refine ⟨?_,HE.out.2⟩
     (repeat apply Exists.intro)
     exact ⟨HE.out.1,rfl⟩
    ·have HCL2:=zhi (show z1U E (decide ((hdR s).kind=1)) m0 (.mk 10 0 0 ((hdR ss).line:Int) ⟨#[]⟩ (xx :: [])) (popR (popR ss))=some (x,s') by
      have h:=HCL.out
      rw [z7w,if_neg (fun hh=>hk ⟨by rw [← SAME.out.1]; exact hh.1,by simpa using hh.2⟩)] at h
      exact h)
     by_cases hk0:kx=13
     ·have hk1:(hdR s).kind≠1:=fun h=>hk ⟨hk0,h⟩
      have hk1':(((hdR s).kind:Int) == 1)=false:=by simp; omega
      rw [hk0] at a0
      have RX':=zhi (by have h:=RX.out; rw [hk0] at h; exact h)
      have VX':=zhi (by have h:=VX.out; rw [hk0] at h; exact h)
      clear hk hk0 hk1
      go_wp2_with (at_builtin; refine z08.out ?_)
      refine z08.of (z0V w5 rfl (.tmp 55) (.tmp 56) rfl bs (0+dx) none 0 0 [] [] xx _ _ _ _ _ _ _ _ (fun q=>w.heap.size+1≤q∧q<w5.heap.size∧q≠xb) rfl rfl rfl (HAr.out.up dx) Hys.out (by have h:=VX'.out.mono 0; rw [Nat.add_comm dx 0] at h; exact h) (fun q hq=>hq.2.1) ?_)
      intro A8 m8 c8 w8 hm8 hr8 hb8
      have rx8:=(hb8.block _ xlt).trans RX'.out
      have HST:=zhi (fun w9 hrow9 hg9=>z2F (s:=s) (tk:=hdR s) (ub:=ub) (w9:=w9) HCL2.out hxlo plt tlt (by omega) (show ExV (fun q=>w.heap.size+1≤q∧q<w8.heap.size∧q≠xb) w8 (0+dx+1) (.mk 10 0 0 ((hdR ss).line:Int) ⟨#[]⟩ (xx :: [])) (.agg #[.int .i64 10,.int .i64 0,.int .i64 0,.int .i64 ((hdR ss).line:Int),.string ⟨#[]⟩,.slice A8 m8 c8]) from ⟨A8,c8,by rw [← hm8],hr8.keep (fun q hq=>by have:=hb8.size; omega) (fun _ _=>rfl)⟩) (HPt.out.below hb8) (HGt.out.trans (z02 hb8 _)) ((hb8.block _ (Array.getElem?_eq_some_iff.1 HZt.out).1).trans HZt.out) ((hb8.block _ (Array.getElem?_eq_some_iff.1 HUt.out).1).trans HUt.out) Hlt.out hrow9 hg9)
      have RX8:=zhi rx8
      clear hm8 hr8 hb8 rx8 a0 a1 a2 a3 a4 a5 b0
      go_wp2_with (with_reducible refine z0B ?_)
      refine z08.of (z00 _ rfl _ _ _ rfl xb _ rfl (by rfl) _ _ RX8.out (by kernel_rfl) (by rfl) (by simp [Value.oneCell']) ?_)
      intro w9 hrow9 hg9
      have hst:=HST.out w9 hrow9 hg9
      have HE:=zhi (And.intro hst.1 (Nat.lt_of_le_of_lt (Nat.le_of_eq hst.2) (show (popR (popR ss)).rest.length<z0z wo p by rw [HRL.out]; exact Hls.out)))
      clear hst hrow9 hg9 HST
      go_wp2_with fail
      refine ⟨?_,HE.out.2⟩
      (repeat apply Exists.intro)
      exact ⟨HE.out.1,rfl⟩
     ·have hk0':(kx == 13)=false:=by simpa using hk0
      have RX':=RX
      have VX':=VX
      clear hk hk0
      go_wp2_with (at_builtin; refine z08.out ?_)
      refine z08.of (z0V w5 rfl (.tmp 55) (.tmp 56) rfl bs (0+dx) none 0 0 [] [] xx _ _ _ _ _ _ _ _ (fun q=>w.heap.size+1≤q∧q<w5.heap.size∧q≠xb) rfl rfl rfl (HAr.out.up dx) Hys.out (by have h:=VX'.out.mono 0; rw [Nat.add_comm dx 0] at h; exact h) (fun q hq=>hq.2.1) ?_)
      intro A8 m8 c8 w8 hm8 hr8 hb8
      have rx8:=(hb8.block _ xlt).trans RX'.out
      have HST:=zhi (fun w9 hrow9 hg9=>z2F (s:=s) (tk:=hdR s) (ub:=ub) (w9:=w9) HCL2.out hxlo plt tlt (by omega) (show ExV (fun q=>w.heap.size+1≤q∧q<w8.heap.size∧q≠xb) w8 (0+dx+1) (.mk 10 0 0 ((hdR ss).line:Int) ⟨#[]⟩ (xx :: [])) (.agg #[.int .i64 10,.int .i64 0,.int .i64 0,.int .i64 ((hdR ss).line:Int),.string ⟨#[]⟩,.slice A8 m8 c8]) from ⟨A8,c8,by rw [← hm8],hr8.keep (fun q hq=>by have:=hb8.size; omega) (fun _ _=>rfl)⟩) (HPt.out.below hb8) (HGt.out.trans (z02 hb8 _)) ((hb8.block _ (Array.getElem?_eq_some_iff.1 HZt.out).1).trans HZt.out) ((hb8.block _ (Array.getElem?_eq_some_iff.1 HUt.out).1).trans HUt.out) Hlt.out hrow9 hg9)
      have RX8:=zhi rx8
      clear hm8 hr8 hb8 rx8 a0 a1 a2 a3 a4 a5 b0
      go_wp2_with (with_reducible refine z0B ?_)
      refine z08.of (z00 _ rfl _ _ _ rfl xb _ rfl (by rfl) _ _ RX8.out (by kernel_rfl) (by rfl) (by simp [Value.oneCell']) ?_)
      intro w9 hrow9 hg9
      have hst:=HST.out w9 hrow9 hg9
      have HE:=zhi (And.intro hst.1 (Nat.lt_of_le_of_lt (Nat.le_of_eq hst.2) (show (popR (popR ss)).rest.length<z0z wo p by rw [HRL.out]; exact Hls.out)))
      clear hst hrow9 hg9 HST
      go_wp2_with fail
      refine ⟨?_,HE.out.2⟩
      (repeat apply Exists.intro)
      exact ⟨HE.out.1,rfl⟩
   ·rw [z0T hv] at hp5
    have HXp:=zhi (HE0.out p tb (popR ss) sy y w5 hp5 hq)
    have HMR:=zhi hmore
    clear hp5 hq hmore HAC HV
    go_wp2_with fail
    refine HXp.out.mono ?_
    rintro e w6 ⟨d6,k6,o6,a6,l6,t6,A6,n6,c6,rfl,hv6,hp6,hg6,hl6⟩
    have hsz6:=hg6.size
    have HV6:=zhi (hv6.keep (G:=fun q=>bs≤q∧q<w6.heap.size) (fun q hq=>⟨by omega,hq.2⟩) (fun _ _=>rfl))
    have HP6:=zhi hp6
    have HG6:=zhi hg6
    have HL6:=zhi hl6
    clear hv6 hp6 hg6 hl6 HXp
    go_wp2_with (at_builtin; refine z08.out ?_)
    refine z08.of (z0O w6 rfl (.tmp 26) (.tmp 29) rfl bs d6 (.slice none 0 0) [] [] y _ _ _ _ _ _ _ _ (fun q=>bs≤q∧q<w6.heap.size) rfl rfl (z0o.nil _ _ _) (by simp) (by omega) HV6.out (fun b hb=>⟨hb.1,hb.2,by simp [Value.ownBlock]⟩) ?_)
    intro g cap w7 har7 hg7
    have hb7:Below w6.heap.size w6 w7:=z07 hg7 (fun k hk=>by simp [Value.ownBlock] at hk) (Nat.le_refl _)
    have HST:Hid (MorR E bs p tb ys (popR ss) sq w5 (.slice (some ⟨g,0,none⟩) 1 cap) w7):=zhi ⟨n3,[y],sy,_,_,_,_,d6,rfl,rfl,HMR.out,har7,HP6.out.below hb7,HG6.out.trans (z02 hb7 _),by simp; have:=HL6.out; omega,HL6.out⟩
    clear har7 hg7 hb7 HV6 HP6 HG6 HL6 HMR
    go_wp2_with fail
    go_loopw [6] (fun v wq=>MorR E bs p tb ys (popR ss) sq w5 v wq) (fun _ wq=>z0z wq p)
    case atStart=>exact HST.out
    case round =>
     obtain ⟨n,xs,sx,L,A,m,c,d,rfl,hm,hmore,har,hp,hg,hlen,hle⟩:=hrel
     subst hm
     clear HST
     have HRQ:=zhi hp.rest
     have HA7:=zhi (z0F [44] _ hp)
     have HAR:=zhi har
     have HMR:=zhi hmore
     have HGq:=zhi hg
     have HLe:=zhi hle
     have hszq:=hg.size
     have hwf:=hp.wf
     have hpos:=hp.wf.pos
     have hxs:xs.length≤1000000:=by have:=HSM.out; omega
     have HWF:=zhi hwf
     have HLn:=zhi hlen
     clear hmore har hp hg hle hwf hlen hpos
     go_wp2_with fail
     refine HA7.out.mono ?_
     rintro e w8 ⟨rfl,hp8,hg8⟩
     have HAR8:=zhi (HAR.out.grown hg8 (by omega))
     have HG8:=zhi (HGq.out.trans hg8)
     have hsz8:=hg8.size
     clear HA7 hg8 HAR HGq
     cases hv2:isR [44] sx with
     | true =>
      obtain ⟨m9,y9,s9,hq9,hmore9⟩:=z9h HMR.out hv2
      rw [z0D hv2] at hp8
      have H22:=zhi (z1B HWF.out hv2)
      have HXp:=zhi (HE0.out p tb (popR sx) s9 y9 w8 hp8 hq9)
      have HMR9:=zhi hmore9
      clear hp8 hq9 hmore9 HMR
      go_wp2_with fail
      refine HXp.out.mono ?_
      rintro e w9 ⟨d9,k9,o9,a9,l9,t9,A9,n9,c9,rfl,hv9,hp9,hg9,hl9⟩
      have hsz9:=hg9.size
      have hou:∀ b,(Value.slice A xs.length c).ownBlock=some b→b<w8.heap.size:=fun b hb=>(HAR8.out.own.lt b hb).2
      have HV9:=zhi (((hv9.keep (G:=fun q=>w8.heap.size≤q∧q<w9.heap.size) (fun q hq=>hq) (fun _ _=>rfl)).mono d))
      have HAR9:=zhi ((HAR8.out.grown hg9 (by omega)).up d9)
      have HP9:=zhi hp9
      have HG9:=zhi (HG8.out.trans hg9)
      have HL9:=zhi hl9
      have HOU:=zhi hou
      clear hv9 hp9 hg9 hl9 HXp HAR8 HG8 hou
      go_wp2_with (at_builtin; refine z08.out ?_)
      refine z08.of (z0O w9 rfl (.tmp 33) (.tmp 36) rfl bs (d+d9) (.slice A xs.length c) xs L y9 _ _ _ _ _ _ _ _ (fun q=>w8.heap.size≤q∧q<w9.heap.size) rfl rfl HAR9.out hxs (by omega) (by rw [Nat.add_comm]; exact HV9.out) (fun b hb=>⟨by omega,hb.2,fun e=>by have:=HOU.out b e; omega⟩) ?_)
      intro g9 cap9 wz harz hgz
      have hgz':w9.grownBy wz (some p)∨True:=.inr trivial
      have hbz:Below bs w9 wz:=z07 hgz (fun k hk=>(HAR9.out.own.lt k hk).1) (by omega)
      have hpz:=HP9.out.low hbz (by omega) (by omega)
      have h22:=H22.out
      have hl9:=HL9.out
      rw [z0j] at hl9
      have HST:Hid (MorR E bs p tb ys (popR ss) sq w5 (.slice (some ⟨g9,0,none⟩) (xs.length+1) cap9) wz∧z0z wz p<z0z wr p):=zhi ⟨⟨m9,xs++[y9],s9,_,_,_,_,d+d9,rfl,by simp,HMR9.out,harz,hpz,z1y HG9.out hbz (by omega),by simp; have:=HLn.out; omega,by have:=HLe.out; omega⟩,by rw [hpz.rest,HRQ.out]; omega⟩
      clear harz hgz hgz' hbz hpz h22 hl9 HOU HL9 HP9 HAR9 HV9
      go_wp2_with fail
      exact HST.out
     | false =>
      obtain ⟨rfl,rfl⟩:=zaW HMR.out hv2
      rw [z0T hv2] at hp8
      have HX8:=zhi (z0r [41] _ hp8)
      clear hp8 HMR
      go_wp2_with fail
      refine HX8.out.mono ?_
      rintro e wt ⟨⟨vt,rfl⟩,hpt,hgt⟩
      have hg5t:=HG8.out.trans hgt
      have HXt:=zhi (HX5.out.grown hg5t (by omega))
      have HPt:=zhi hpt
      have HGt:=zhi (HG5.out.trans hg5t)
      have HZt:=zhi (z04 hg5t (by omega) HZ5.out)
      have HUt:=zhi (z04 hg5t (by omega) HU5.out)
      have hxl2:=z0h [41] sx
      have Hlt:=zhi (show (z0c [41] sx).rest.length≤s.rest.length by have:=HLe.out; rw [z0j] at this; have:=Hl.out; omega)
      have Hls:=zhi (show (z0c [41] sx).rest.length<ss.rest.length by have:=HLe.out; rw [z0j] at this; have:=H2.out; omega)
      have HAr:=zhi (HAR8.out.grown hgt (by omega))
      have Hys:=zhi hxs
      clear hpt hgt hg5t hxl2 HX8 HAR8 HG8 HX5 HG5 HZ5 HU5 H2 HSM HWF HLn HLe HRQ
      obtain ⟨hxlo,dx,kx,ox,ax,lx,tx,Ax,nx,cx,rx,vx⟩:=HXt.out
      have xlt:=(Array.getElem?_eq_some_iff.1 rx).1
      obtain ⟨a0,a1,a2,a3,a4,a5⟩:=cl6 rx
      have b0:=cell_of_row _ _ 0 _ _ _ HUt.out
      have RX:=zhi rx
      have VX:=zhi vx
      have SAME:=zhi (z6T vx)
      clear rx vx HXt
      by_cases hk:kx=13∧(hdR s).kind=1
      ·obtain ⟨hk,hk1⟩:=hk
       rw [hk] at a0
       rw [hk1] at b0
       have HCL2:=zhi (show z1U E (decide ((hdR s).kind=1)) m0 (.mk 9 0 0 ((hdR ss).line:Int) tx ys) (z0c [41] sx)=some (x,s') by
        have h:=HCL.out
        rw [z7w,if_pos ⟨by rw [SAME.out.1]; exact hk,by simp [hk1]⟩,SAME.out.2] at h
        exact h)
       clear hk hk1
       go_wp2_with (with_reducible refine z0B ?_)
       refine z08.of (z00 _ rfl _ _ _ rfl xb _ rfl (by rfl) _ _ RX.out (by kernel_rfl) (by rfl) (by simp [Value.oneCell']) ?_)
       intro w9 hrow9 hg9
       have hst:=z2F (s:=s) (tk:=hdR s) (ub:=ub) HCL2.out hxlo plt tlt (by omega) (show ExV (fun q=>w.heap.size+1≤q∧q<wt.heap.size∧q≠xb) wt (d+1) (.mk 9 0 0 ((hdR ss).line:Int) tx ys) _ from ⟨A,c,rfl,(HAr.out.row.2).keep (fun q hq=>⟨by omega,hq.2,by omega⟩) (fun _ _=>rfl)⟩) HPt.out HGt.out HZt.out HUt.out Hlt.out hrow9 hg9
       have HE:=zhi (And.intro hst.1 (Nat.lt_of_le_of_lt (Nat.le_of_eq hst.2) (show (z0c [41] sx).rest.length<z0z wo p by rw [HRL.out]; exact Hls.out)))
       clear hst hrow9 hg9 a0 a1 a2 a3 a4 a5 b0
       go_wp2_with fail
       refine ⟨?_,HE.out.2⟩
       (repeat apply Exists.intro)
       exact ⟨HE.out.1,rfl⟩
      ·have HCL2:=zhi (show z1U E (decide ((hdR s).kind=1)) m0 (.mk 10 0 0 ((hdR ss).line:Int) ⟨#[]⟩ (xx :: ys)) (z0c [41] sx)=some (x,s') by
        have h:=HCL.out
        rw [z7w,if_neg (fun hh=>hk ⟨by rw [← SAME.out.1]; exact hh.1,by simpa using hh.2⟩)] at h
        exact h)
       by_cases hk0:kx=13
       ·have hk1:(hdR s).kind≠1:=fun h=>hk ⟨hk0,h⟩
        have hk1':(((hdR s).kind:Int) == 1)=false:=by simp; omega
        rw [hk0] at a0
        have RX':=zhi (by have h:=RX.out; rw [hk0] at h; exact h)
        have VX':=zhi (by have h:=VX.out; rw [hk0] at h; exact h)
        clear hk hk0 hk1
        go_wp2_with (at_builtin; refine z08.out ?_)
        refine z08.of (z0V wt rfl (.tmp 55) (.tmp 56) rfl bs (d+dx) A ys.length c ys L xx _ _ _ _ _ _ _ _ (fun q=>w.heap.size+1≤q∧q<wt.heap.size∧q≠xb) rfl rfl rfl (HAr.out.up dx) Hys.out (by have h:=VX'.out.mono d; rw [Nat.add_comm dx d] at h; exact h) (fun q hq=>hq.2.1) ?_)
        intro A8 m8 c8 w8 hm8 hr8 hb8
        have rx8:=(hb8.block _ xlt).trans RX'.out
        have HST:=zhi (fun w9 hrow9 hg9=>z2F (s:=s) (tk:=hdR s) (ub:=ub) (w9:=w9) HCL2.out hxlo plt tlt (by omega) (show ExV (fun q=>w.heap.size+1≤q∧q<w8.heap.size∧q≠xb) w8 (d+dx+1) (.mk 10 0 0 ((hdR ss).line:Int) ⟨#[]⟩ (xx :: ys)) (.agg #[.int .i64 10,.int .i64 0,.int .i64 0,.int .i64 ((hdR ss).line:Int),.string ⟨#[]⟩,.slice A8 m8 c8]) from ⟨A8,c8,by rw [← hm8],hr8.keep (fun q hq=>by have:=hb8.size; omega) (fun _ _=>rfl)⟩) (HPt.out.below hb8) (HGt.out.trans (z02 hb8 _)) ((hb8.block _ (Array.getElem?_eq_some_iff.1 HZt.out).1).trans HZt.out) ((hb8.block _ (Array.getElem?_eq_some_iff.1 HUt.out).1).trans HUt.out) Hlt.out hrow9 hg9)
        have RX8:=zhi rx8
        clear hm8 hr8 hb8 rx8 a0 a1 a2 a3 a4 a5 b0
        go_wp2_with (with_reducible refine z0B ?_)
        refine z08.of (z00 _ rfl _ _ _ rfl xb _ rfl (by rfl) _ _ RX8.out (by kernel_rfl) (by rfl) (by simp [Value.oneCell']) ?_)
        intro w9 hrow9 hg9
        have hst:=HST.out w9 hrow9 hg9
        have HE:=zhi (And.intro hst.1 (Nat.lt_of_le_of_lt (Nat.le_of_eq hst.2) (show (z0c [41] sx).rest.length<z0z wo p by rw [HRL.out]; exact Hls.out)))
        clear hst hrow9 hg9 HST
        go_wp2_with fail
        refine ⟨?_,HE.out.2⟩
        (repeat apply Exists.intro)
        exact ⟨HE.out.1,rfl⟩
       ·have hk0':(kx == 13)=false:=by simpa using hk0
        have RX':=RX
        have VX':=VX
        clear hk hk0
        go_wp2_with (at_builtin; refine z08.out ?_)
        refine z08.of (z0V wt rfl (.tmp 55) (.tmp 56) rfl bs (d+dx) A ys.length c ys L xx _ _ _ _ _ _ _ _ (fun q=>w.heap.size+1≤q∧q<wt.heap.size∧q≠xb) rfl rfl rfl (HAr.out.up dx) Hys.out (by have h:=VX'.out.mono d; rw [Nat.add_comm dx d] at h; exact h) (fun q hq=>hq.2.1) ?_)
        intro A8 m8 c8 w8 hm8 hr8 hb8
        have rx8:=(hb8.block _ xlt).trans RX'.out
        have HST:=zhi (fun w9 hrow9 hg9=>z2F (s:=s) (tk:=hdR s) (ub:=ub) (w9:=w9) HCL2.out hxlo plt tlt (by omega) (show ExV (fun q=>w.heap.size+1≤q∧q<w8.heap.size∧q≠xb) w8 (d+dx+1) (.mk 10 0 0 ((hdR ss).line:Int) ⟨#[]⟩ (xx :: ys)) (.agg #[.int .i64 10,.int .i64 0,.int .i64 0,.int .i64 ((hdR ss).line:Int),.string ⟨#[]⟩,.slice A8 m8 c8]) from ⟨A8,c8,by rw [← hm8],hr8.keep (fun q hq=>by have:=hb8.size; omega) (fun _ _=>rfl)⟩) (HPt.out.below hb8) (HGt.out.trans (z02 hb8 _)) ((hb8.block _ (Array.getElem?_eq_some_iff.1 HZt.out).1).trans HZt.out) ((hb8.block _ (Array.getElem?_eq_some_iff.1 HUt.out).1).trans HUt.out) Hlt.out hrow9 hg9)
        have RX8:=zhi rx8
        clear hm8 hr8 hb8 rx8 a0 a1 a2 a3 a4 a5 b0
        go_wp2_with (with_reducible refine z0B ?_)
        refine z08.of (z00 _ rfl _ _ _ rfl xb _ rfl (by rfl) _ _ RX8.out (by kernel_rfl) (by rfl) (by simp [Value.oneCell']) ?_)
        intro w9 hrow9 hg9
        have hst:=HST.out w9 hrow9 hg9
        have HE:=zhi (And.intro hst.1 (Nat.lt_of_le_of_lt (Nat.le_of_eq hst.2) (show (z0c [41] sx).rest.length<z0z wo p by rw [HRL.out]; exact Hls.out)))
        clear hst hrow9 hg9 HST
        go_wp2_with fail
        refine ⟨?_,HE.out.2⟩
        (repeat apply Exists.intro)
        exact ⟨HE.out.1,rfl⟩
  | false =>
   obtain ⟨rfl,rfl⟩:=z8r HLP.out hs
   obtain ⟨hxlo,dx,kx,ox,ax,lx,tx,Ax,nx,cx,rx,vx⟩:=HX2.out
   obtain ⟨a0,a1,a2,a3,a4,a5⟩:=cl6 rx
   have VX:=zhi vx
   clear rx vx
   go_wp2_with (with_reducible refine z0B ?_)
   refine z08.of (z00 _ rfl _ _ _ rfl w.heap.size _ rfl (by rfl) _ _ HZ2.out (by kernel_rfl) (by rfl) (by simp [Value.oneCell']) ?_)
   intro w9 hrow9 hg9
   obtain ⟨j0,j1,j2,j3,j4,j5⟩:=cl6 hrow9
   have HH:=zhi (z1L VX.out HP2.out HG2.out Hl.out plt tlt hg9)
   clear hrow9 hg9 a0 a1 a2 a3 a4 a5
   go_wp2_with fail
   exact bodyPost_ret (by simp [results,Try.results98,go_sem,j0,j1,j2,j3,j4,j5]) rfl HH.out
end Go.Proofs.Ytleicdfkagejoaa
namespace Go.Proofs.Ytleicdfkagejoaa
open Go.RowKit
theorem z5D:∀ d,SubR 85 (z7C d)
 | 0=>fun _ _ _ _ _ _ _ hP=>by cases hP
 | d+1=>by
  have hE:=z5D d
  have hU:SubR 97 (zac (z7C d)):=fun p tb s s' x w h hP=>z7Z (z7C d) (zaD (z7C d) hE) (s.rest.length+1) p tb s s' x w h hP
  exact z8A _ (zay _ (z4T _ (zbm _ (za9 _ hU))))
def zcp:R1:=fun s=>z7C (s.rest.length+1) s
theorem zcq:SubR 85 zcp:=fun p tb s s' x w h hP=>z5D (s.rest.length+1) p tb s s' x w h hP
def z33 (s:RS):Nat × Nat:=if s.bad=true∨(hdR s).kind≠0 then ((hdR s).line,7) else if 0<s.wrong then (s.wrong,1) else (0,0)
def zeb (q:Nat × Nat) (w:World) (e:Ending) (w':World):Prop:=e=.returned (.tuple #[.int .i64 (q.1:Int),.int .i64 (q.2:Int)])∧Below w.heap.size w w'
set_option maxRecDepth 100000 in
set_option maxHeartbeats 2000000 in
theorem zdr {p tb:Nat} {s:RS} (w:World) (h:RA w p tb s):Calls Try.prog 21 #[.pointer (some ⟨p,0,none⟩)] w (zeb (z33 s) w):=by
 have HN:=zhi (fun w1 (hb:Below w.heap.size w w1)=>z3w w1 (h.below hb))
 have HA:=zhi h
 have HNow:=zhi (z3w w h)
 obtain ⟨a,c,N,hr⟩:=h
 have plt:=hr.plt
 have c2:=hr.cells.2.2.1
 have c3:=hr.cells.2.2.2.1
 have HR:=zhi hr
 have hfd0:∀ w:World,(Instr.field 98 (.agg #[.int .i64 ((hdR s).kind:Int),.int .i64 ((hdR s).line:Int),.int .i64 ((hdR s).value:Int),.string (nmB (hdR s).text)]) 0).run Try.prog w=.ok (.int .i64 ((hdR s).kind:Int)) w:=fun _=>by kernel_rfl
 have hfd1:∀ w:World,(Instr.field 98 (.agg #[.int .i64 ((hdR s).kind:Int),.int .i64 ((hdR s).line:Int),.int .i64 ((hdR s).value:Int),.string (nmB (hdR s).text)]) 1).run Try.prog w=.ok (.int .i64 ((hdR s).line:Int)) w:=fun _=>by kernel_rfl
 clear hr
 cases hb:s.bad with
 | true =>
  rw [hb] at c2
  have HD:Hid (z33 s=((hdR s).line,7)):=zhi (by unfold z33; rw [if_pos (.inl hb)])
  clear hb c3
  go_enter Try.func21,Try.ntmps21
  go_wp2_with fail
  refine HNow.out.mono ?_
  rintro e w1 ⟨rfl,hb1⟩
  unfold z1C
  have HB:=zhi hb1
  clear hb1 HNow HN
  go_wp2_with fail
  go_ret2
  exact ⟨by rw [HD.out]; rfl,HB.out⟩
 | false =>
  rw [hb] at c2
  by_cases hk:(hdR s).kind=0
  ·have hk':(((hdR s).kind:Int) != 0)=false:=by simp [hk]
   by_cases hw:0<s.wrong
   ·have HD:Hid (z33 s=(s.wrong,1)):=zhi (by unfold z33; rw [if_neg (fun h=>by rcases h with h | h; rw [hb] at h; cases h; exact h hk),if_pos hw])
    have hw':0<(s.wrong:Int):=by omega
    clear hb hk hw
    go_enter Try.func21,Try.ntmps21
    go_wp2_with fail
    refine HNow.out.mono ?_
    rintro e w1 ⟨rfl,hb1⟩
    unfold z1C
    have h1:=HR.out.keep (hb1.block _ plt) (hb1.block _ HR.out.tlt)
    have d3:=h1.cells.2.2.2.1
    have HB:=zhi hb1
    clear hb1 HNow HN h1
    go_wp2_with fail
    go_ret2
    exact ⟨by rw [HD.out]; rfl,HB.out⟩
   ·have HD:Hid (z33 s=(0,0)):=zhi (by unfold z33; rw [if_neg (fun h=>by rcases h with h | h; rw [hb] at h; cases h; exact h hk),if_neg hw])
    have hw0:s.wrong=0:=by omega
    rw [hw0] at c3
    clear hb hk hw
    go_enter Try.func21,Try.ntmps21
    go_wp2_with fail
    refine HNow.out.mono ?_
    rintro e w1 ⟨rfl,hb1⟩
    unfold z1C
    have h1:=HR.out.keep (hb1.block _ plt) (hb1.block _ HR.out.tlt)
    have d3:=h1.cells.2.2.2.1
    rw [hw0] at d3
    have HB:=zhi hb1
    clear hb1 HNow HN h1 hw0
    go_wp2_with fail
    go_ret2
    exact ⟨by rw [HD.out]; rfl,HB.out⟩
  ·have hk':(((hdR s).kind:Int) != 0)=true:=by simp; omega
   have HD:Hid (z33 s=((hdR s).line,7)):=zhi (by unfold z33; rw [if_pos (.inr hk)])
   clear hb hk c3
   go_enter Try.func21,Try.ntmps21
   go_wp2_with fail
   refine HNow.out.mono ?_
   rintro e w1 ⟨rfl,hb1⟩
   unfold z1C
   have HN1:=zhi (HN.out w1 hb1)
   have HB:=zhi hb1
   clear hb1 HNow HN
   go_wp2_with fail
   refine HN1.out.mono ?_
   rintro e w2 ⟨rfl,hb2⟩
   unfold z1C
   have HB2:=zhi (z0b HB.out hb2)
   clear hb2 HN1
   go_wp2_with fail
   go_ret2
   exact ⟨by rw [HD.out]; rfl,HB2.out⟩
theorem zb4 {w:World} {base:Nat} {v:Value} {ts:List Tok} (hown:w.ownsRow base 98 4 v ts.length (tks ts)) (hwf:WFt ts) (hlen:ts.length≤1000000):∃ g c,v=.slice (some ⟨g,0,none⟩) ts.length c∧base≤g∧g<w.heap.size∧∀ T:TypeId,RA (w.alloc (.cells #[v,.int .i64 0,.bool false,.int .i64 0] T)) w.heap.size g ⟨ts,false,0⟩:=by
 have hpos:=hwf.pos
 obtain ⟨g,c,hv,hb,hc,hg,_⟩:=z9A hown (k:=0) (List.getElem?_eq_getElem hpos)
 refine ⟨g,c,hv,hb,hg,fun T=>⟨0,c,ts.length,hwf,by omega,by simp,hc,hlen,⟨T,?_⟩,fun k t hk=>?_⟩⟩
 ·rw [heap_alloc_new,hv]
  rfl
 ·obtain ⟨g',c',hv',_,_,_,h0,h1,h2,h3⟩:=z9A hown hk
  rw [hv] at hv'
  injection hv' with e1 e2 e3
  injection e1 with e1
  injection e1 with e1
  subst e1
  have hb:=(Below.refl _ w).alloc (Nat.le_refl _) (.cells #[v,.int .i64 0,.bool false,.int .i64 0] T)
  have hT:z7u w g (k * 4) t:=⟨h0,h1,h2,h3⟩
  rw [Nat.zero_add]
  exact hT.keep (hb.block g hg)
theorem zbe {l:z0g} {ts:List Tok} (h:z2Z l=.ok ts):WFt ts∧ts.length≤1000000:=by
 unfold z2Z at h
 split at h
 ·cases h
 ·rename_i hl
  cases hs:scan 1 l with
  | error n=>rw [hs] at h; cases h
  | ok t =>
   rw [hs] at h
   injection h with h
   subst h
   have:=(z9V l.length l 1 t (Nat.le_refl _) hs).2
   exact ⟨zbu hs,by omega⟩
end Go.Proofs.Ytleicdfkagejoaa
