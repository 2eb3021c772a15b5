/-
  Kl: PtO, PtP. Walks and laws that the statement's proof is made of. No condition of its own.
-/
import Derived.Test.YtdplfnemedckaaaGreatDoorKk
import Derived.Test.YtdplfnemedckaaaGreatDoorKg
import Derived.Test.YtdplfnemedckaaaGreatDoorKi
namespace Go.Proofs.YtdplfnemedckaaaGreatDoor
open Go.RowKit
structure SrcQ (p tb pb:Nat) (gl:Gls) (fl:List Fn) (s:PS) (w wr:World) (gA:Option Addr) (gm gc:Nat) (Lg:List Value) (fA:Option Addr) (fm fc:Nat) (Lf:List Value) (D d:Nat):Prop where
 pa:PA wr p tb s
 gr:w.grownBy wr (some p)
 lo:p<w.heap.size∧tb<w.heap.size∧w.heap.size≤pb
 row:wr.heap[pb]?=some (.cells #[.slice gA gm gc,.slice fA fm fc] 29 (0,0))
 hgm:gm=gl.length
 hfm:fm=fl.length
 gs:GRow 2 52 MGl (pb+1) wr (.slice gA gm gc) gl Lg
 fs:GRow 4 55 (MFnX D d (obk (.slice gA gm gc))) (pb+1) wr (.slice fA fm fc) fl Lf
 sep:∀ b,(Value.slice fA fm fc).ownBlock=some b→b≠obk (.slice gA gm gc)
section
variable {p tb pb:Nat} {gl:Gls} {fl:List Fn} {s s':PS} {w wr w':World} {gA fA:Option Addr} {gm gc fm fc D d:Nat} {Lg Lf:List Value}
theorem SrcQ.plt (h:SrcQ p tb pb gl fl s w wr gA gm gc Lg fA fm fc Lf D d):pb<wr.heap.size:=(Array.getElem?_eq_some_iff.1 h.row).1
theorem SrcQ.step (h:SrcQ p tb pb gl fl s w wr gA gm gc Lg fA fm fc Lf D d) (hg:wr.grownBy w' (some p)) (ha:PA w' p tb s'):SrcQ p tb pb gl fl s' w w' gA gm gc Lg fA fm fc Lf D d:=by
 obtain ⟨h1,h2,h3⟩:=h.lo
 exact ⟨ha,h.gr.trans hg,h.lo,z04 hg (by omega) h.row,h.hgm,h.hfm,h.gs.grown z1c hg (by omega),h.fs.grown (z1y _ _ _) hg (by omega),h.sep⟩
theorem SrcQ.pushG {y:ByteArray × Int} {g8 cap:Nat} {w2:World} {cs:List Value} (h:SrcQ p tb pb gl fl s w wr gA gm gc Lg fA fm fc Lf D d) (h2:GRow 2 52 MGl (pb+1) w2 (.slice (some ⟨g8,0,none⟩) (gl.length+1) cap) (gl++[y]) (Lg++cs)) (hg:wr.grownBy w2 (Value.slice gA gm gc).ownBlock) (hg8:(Value.slice gA gm gc).ownBlock=some g8∨wr.heap.size≤g8) :
  SrcQ p tb pb (gl++[y]) fl s w (w2.setCell ⟨pb,0,none⟩ (.slice (some ⟨g8,0,none⟩) (gl.length+1) cap)) (some ⟨g8,0,none⟩) (gl.length+1) cap (Lg++cs) fA fm fc Lf D d:=by
 obtain ⟨hp,ht,hlt⟩:=h.lo
 have hpl:=h.plt
 have hb:Below (pb+1) wr w2:=z0b hg (fun k hk=>(h.gs.own.lt k hk).1) (by omega)
 have hs:w2.grownBy (w2.setCell ⟨pb,0,none⟩ (.slice (some ⟨g8,0,none⟩) (gl.length+1) cap)) (some pb):=z06 w2 ⟨pb,0,none⟩ _
 obtain ⟨hf,hsep⟩:=zaM h.fs z8I h.sep hg hg8
 have hr2:=(hb.block pb (by omega)).trans h.row
 exact ⟨(h.pa.low hb (by omega) (by omega)).other hs (by omega) (by omega),z0g (z17 h.gr hb (by omega)) hs (by omega),h.lo,z0f (i:=0) (.slice (some ⟨g8,0,none⟩) (gl.length+1) cap) hr2,by simp,h.hfm,h2.grown z1c hs (by omega),hf.grown (z1y _ _ _) hs (by omega),hsep⟩
theorem SrcQ.pushF {y:Fn} {g8 cap D' d':Nat} {w2:World} {cs:List Value} (h:SrcQ p tb pb gl fl s w wr gA gm gc Lg fA fm fc Lf D d) (h2:GRow 4 55 (MFnX D' d' (obk (.slice gA gm gc))) (pb+1) w2 (.slice (some ⟨g8,0,none⟩) (fl.length+1) cap) (fl++[y]) (Lf++cs)) (hg:wr.grownBy w2 (Value.slice fA fm fc).ownBlock) (hg8:(Value.slice fA fm fc).ownBlock=some g8∨wr.heap.size≤g8) :
  SrcQ p tb pb gl (fl++[y]) s w (w2.setCell ⟨pb,1,none⟩ (.slice (some ⟨g8,0,none⟩) (fl.length+1) cap)) gA gm gc Lg (some ⟨g8,0,none⟩) (fl.length+1) cap (Lf++cs) D' d':=by
 obtain ⟨hp,ht,hlt⟩:=h.lo
 have hpl:=h.plt
 have hb:Below (pb+1) wr w2:=z0b hg (fun k hk=>(h.fs.own.lt k hk).1) (by omega)
 have hs:w2.grownBy (w2.setCell ⟨pb,1,none⟩ (.slice (some ⟨g8,0,none⟩) (fl.length+1) cap)) (some pb):=z06 w2 ⟨pb,1,none⟩ _
 have hr2:=(hb.block pb (by omega)).trans h.row
 have hgs:=h.gs.other (fun _ _ _ _ _ _ h=>h) hg (fun b hb e=>h.sep b e (z8I b hb))
 refine ⟨(h.pa.low hb (by omega) (by omega)).other hs (by omega) (by omega),z0g (z17 h.gr hb (by omega)) hs (by omega),h.lo,z0f (i:=1) (.slice (some ⟨g8,0,none⟩) (fl.length+1) cap) hr2,h.hgm,by simp,hgs.grown z1c hs (by omega),h2.grown (z1y _ _ _) hs (by omega),?_⟩
 intro b hb
 have e:g8=b:=by simpa [Value.ownBlock] using hb
 subst e
 rcases hg8 with h8 | h8
 ·exact h.sep _ h8
 ·intro e
  by_cases hn:(Value.slice gA gm gc).ownBlock=none
  ·rw [obk,hn] at e
   simp at e
   omega
  ·obtain ⟨b,hb⟩:=Option.ne_none_iff_exists'.1 hn
   have:=(h.gs.own.lt b hb).2
   rw [obk,hb] at e
   simp at e
   omega
theorem SrcQ.len (h:SrcQ p tb pb gl fl s w wr gA gm gc Lg fA fm fc Lf D d):z44 wr pb=gl.length+fl.length:=by
 have e0:wr.cell? ⟨pb,0,none⟩=some (.slice gA gm gc):=by rw [cell_of_row _ _ 0 _ _ _ h.row]; rfl
 have e1:wr.cell? ⟨pb,1,none⟩=some (.slice fA fm fc):=by rw [cell_of_row _ _ 1 _ _ _ h.row]; rfl
 rw [z44,e0,e1,← h.hgm,← h.hfm]
end
def zgd (p tb:Nat) (gl:Gls) (fl:List Fn) (s s':PS) (w:World) (e:Ending) (w':World):Prop:=∃ D d pb gA gm gc fA fm fc,e=.returned (.pointer (some ⟨pb,0,none⟩))∧w.heap.size≤pb∧w'.heap[pb]?=some (.cells #[.slice gA gm gc,.slice fA fm fc] 29 (0,0))∧gm=gl.length∧fm=fl.length ∧
 RowG 2 MGl (fun q=>w.heap.size≤q∧q<w'.heap.size) w' gl gA gc∧RowG 4 (MFn D d) (fun q=>w.heap.size≤q∧q<w'.heap.size) w' fl fA fc∧PA w' p tb s'∧w.grownBy w' (some p)∧s'.rest.length≤s.rest.length
theorem zdS {p tb pb:Nat} {gl:Gls} {fl:List Fn} {s s':PS} {w wr:World} {gA fA:Option Addr} {gm gc fm fc D d:Nat} {Lg Lf:List Value} (h:SrcQ p tb pb gl fl s' w wr gA gm gc Lg fA fm fc Lf D d) (hl:s'.rest.length≤s.rest.length):zgd p tb gl fl s s' w (.returned (.pointer (some ⟨pb,0,none⟩))) wr:=by
 obtain ⟨hp,ht,hlt⟩:=h.lo
 have h1:=(h.gs.row z1c).2
 have h2:=(h.fs.row (z1y _ _ _)).2
 refine ⟨D,d,pb,gA,gm,gc,fA,fm,fc,rfl,hlt,h.row,h.hgm,h.hfm,h1.keep z1c (fun b hb=>⟨by omega,hb.2⟩) (fun _ _=>rfl),⟨h2.1,fun i x hi=>?_⟩,h.pa,h.gr,hl⟩
 obtain ⟨g,cs,q1,q2,q3,q4,q5⟩:=h2.2 i x hi
 exact ⟨g,cs,q1,⟨by omega,q2.2⟩,q3,q4,z3f D d _ _ _ _ _ _ (fun b hb=>⟨by have:=hb.1.1; omega,hb.1.2⟩) (fun _ _=>rfl) q5⟩
def SrcL (B:PSL) (p tb pb n0:Nat) (G:Gls) (Fs:List Fn) (s s':PS) (w wr:World):Prop:=∃ n gl fl ss gA gm gc Lg fA fm fc Lf D d,z0P B n gl fl ss=some (G,Fs,s')∧n+gl.length+fl.length=n0∧SrcQ p tb pb gl fl ss w wr gA gm gc Lg fA fm fc Lf D d∧ss.rest.length≤s.rest.length
theorem z43 {B:PSL} {n:Nat} {gl G:Gls} {fl Fs:List Fn} {s s':PS} (h:z0P B n gl fl s=some (G,Fs,s')):((hdT s).kind=0∧G=gl∧Fs=fl∧s'=s)∨((hdT s).kind≠0∧∃ m,n=m+1∧((z0c [z0I] s=true∧z0P B m (gl++[(z1l s).1]) fl (z1l s).2=some (G,Fs,s'))∨(z0c [z0I] s=false∧∃ f s1,z1b B s=some (f,s1)∧z0P B m gl (fl++[f]) s1=some (G,Fs,s')))):=by
 cases n with
 | zero=>cases h
 | succ m =>
  simp only [z0P] at h
  by_cases hk:(hdT s).kind=0
  ·rw [if_pos hk] at h
   injection h with h
   injection h with e1 e2
   injection e2 with e2 e3
   exact .inl ⟨hk,e1.symm,e2.symm,e3.symm⟩
  ·rw [if_neg hk] at h
   refine .inr ⟨hk,m,rfl,?_⟩
   cases hi:z0c [z0I] s with
   | true=>rw [if_pos hi] at h; exact .inl ⟨rfl,h⟩
   | false =>
    rw [if_neg (by rw [hi]; decide)] at h
    refine .inr ⟨rfl,?_⟩
    cases hq:z1b B s with
    | none=>rw [hq] at h; cases h
    | some q=>rw [hq] at h; exact ⟨q.1,q.2,rfl,h⟩
theorem zaK {f:Fn} {n0 X D d Df df m c bm bc:Nat} {A bA:Option Addr} {w:World} (hm:m=f.params.length) (hbm:bm=f.body.length) (hps:RowG 1 MStr (fun q=>n0≤q∧q<w.heap.size) w f.params A c) (hbd:RowS (fun q=>n0≤q∧q<w.heap.size) w Df df f.body bA bc) (hX:X<n0) :
  MFnX (D+Df) (d+df+1) X (fun q=>n0≤q∧q<w.heap.size) w f [.string f.name,.int .i64 f.line,.slice A m c,.slice bA bm bc]:=zcY (f:=f) (ln:=f.line) hm hbm hps hbd hX
theorem zhb {D d X base:Nat} {w:World} {v:Value} {fl:List Fn} {L:List Value} (h:GRow 4 55 (MFnX D d X) base w v fl L) (Df df:Nat):GRow 4 55 (MFnX (D+Df) (d+df+1) X) base w v fl L :=
 h.map (fun F w x cs h=>by
  have:=MFn.up h Df df
  have e:d+(df+1)=d+df+1:=by omega
  rw [e] at this
  exact this)
theorem zhc {base n0 n k:Nat} {T:TypeId} {w w14:World} {v:Value} {L:List Value} (h:w.ownsRow base T k v n L) (hb:base≤n0) (hn:w.heap.size≤n0:=by exact Nat.le_refl _):∀ b,(n0≤b∧b<w14.heap.size)→base≤b∧b<w14.heap.size∧v.ownBlock≠some b:=fun b hb'=>⟨by omega,hb'.2,fun e=>by have:=(h.lt b e).2; omega⟩
set_option maxRecDepth 100000 in
set_option maxHeartbeats 8000000 in
theorem z86 (B:PSL) (hbk:z98 74 B) (p tb:Nat) (s s':PS) (G:Gls) (Fs:List Fn) (w:World) (h:PA w p tb s) (hsm:s.rest.length≤1000000) (hP:z0P B (s.rest.length+1) [] [] s=some (G,Fs,s')):Calls Tryz.prog 19 #[.pointer (some ⟨p,0,none⟩)] w (zgd p tb G Fs s s' w):=by
 have HBK:=zhi hbk
 have HSM:=zhi hsm
 have hb0:=(Below.refl _ w).alloc (Nat.le_refl _) z1O
 have HR:Hid (SrcL B p tb w.heap.size (s.rest.length+1) G Fs s s' w (w.alloc z1O)):=zhi ⟨_,[],[],s,none,0,0,[],none,0,0,[],0,0,hP,rfl,⟨h.below hb0,z01 hb0 _,⟨h.lt.1,h.lt.2.1,Nat.le_refl _⟩,heap_alloc_new w z1O,rfl,rfl,GRow.nil,GRow.nil,fun b hb=>by simp [Value.ownBlock] at hb⟩,Nat.le_refl _⟩
 unfold z1O at HR
 clear hP h hb0 hsm hbk
 go_enter Tryz.func19,Tryz.ntmps19
 go_wp2_with fail
 obtain ⟨pb,hpb⟩:∃ pb,pb=w.heap.size:=⟨_,rfl⟩
 rw [← hpb] at HR ⊢
 obtain ⟨ws,hws⟩:∃ ws,ws=w.alloc (.cells #[.slice none 0 0,.slice none 0 0] 29):=⟨_,rfl⟩
 rw [← hws] at HR ⊢
 clear hws hpb
 go_loopw [] (fun wr=>SrcL B p tb pb (s.rest.length+1) G Fs s s' w wr) (fun wr=>(s.rest.length+1) - z44 wr pb)
 case atStart=>exact HR.out
 case round =>
  obtain ⟨n,gl,fl,ss,gA,gm,gc,Lg,fA,fm,fc,Lf,D,d,hsrc,hn,hU,hl⟩:=hrel
  have hgm:=hU.hgm
  have hfm:=hU.hfm
  subst hgm hfm
  clear HR
  have HU:=zhi hU
  have HLEN:=zhi hU.len
  have HC:=zhi (z43 hsrc)
  have HN:=zhi hn
  have Hl:=zhi hl
  have hlo:=hU.lo
  have hpl:=hU.plt
  have HNow:=zhi (z6S wr hU.pa)
  clear hsrc hn hU hl
  rcases HC.out with ⟨hk,rfl,rfl,rfl⟩ | ⟨hk,m,rfl,hc⟩
  ·rw [decide_eq_true hk] at HNow
   have HE:=zhi (zdS (s:=s) HU.out Hl.out)
   clear HC hk HLEN HN
   go_wp2_with fail
   refine HNow.out.mono ?_
   rintro e w2 ⟨rfl,rfl⟩
   go_wp2_with fail
   go_ret
   exact HE.out
  ·rw [decide_eq_false hk] at HNow
   have hba:=(Below.refl _ wr).alloc (Nat.le_refl _) (.cells #[.string ⟨#[103,108,111,98,97,108]⟩] 9)
   have H2:=zhi (HU.out.step (z01 hba _) (HU.out.pa.below hba))
   have hpl2:=Nat.lt_of_lt_of_le hpl hba.size
   clear HC hk hba
   go_wp2_with fail
   refine HNow.out.mono ?_
   rintro e w2 ⟨rfl,rfl⟩
   rcases hc with ⟨hv,hnext⟩ | ⟨hv,f,s1,hfn,hnext⟩
   ·have HS:=zhi (z0W true [z0I] _ 1 1 _ H2.out.pa hv rfl (Nat.le_refl _) (by omega) (z4L _ z0I 9))
    have HNX:=zhi hnext
    have hxl:gl.length≤1000000:=by have:=HN.out; have:=HSM.out; omega
    clear hnext hv HNow HU
    go_wp2_with fail
    refine HS.out.mono ?_
    rintro e w2 ⟨rfl,rfl⟩
    obtain ⟨w3,hw3⟩:∃ w3,w3=wr.alloc (.cells #[.string ⟨#[103,108,111,98,97,108]⟩] 9):=⟨_,rfl⟩
    rw [← hw3] at H2 hpl2 ⊢
    clear hw3 HS
    have HGl:=zhi (z9p p tb ss w3.drew H2.out.pa.drew)
    have hr0:=H2.out.row
    have b0:=cell_of_row _ _ 0 _ _ _ hr0
    obtain ⟨gy,hgy⟩:∃ gy,gy=z1l ss:=⟨_,rfl⟩
    rw [← hgy] at HGl HNX
    clear hgy hr0
    go_upto_region 4 with fail
    go_region_law
     (first
      | ((with_reducible refine z2Z (k:=2) (T:=52) (S:=26) (V:=MGl) w14 rfl (.tmp 16) (.tmp 19) rfl z1c (.agg #[.string ⟨#[]⟩,.int .i64 0]) 24 Tryz.underlying26 zfc rfl (by decide) (by decide) (pb+1) (.slice gA gl.length gc) gl Lg gy.1 [.string gy.1.1,.int .i64 gy.1.2] (fun _=>False) rfl rfl HGS6.out hxl (by omega) rfl (zh6 _) (zdk _ _ _) (fun b hb=>hb.elim) ?_); intro g8 cap8 w15 hgs8 hg8 hat8; have hb8:=(z4O HGS6.out.own hg8 (by omega)); have hrow8:=((hb8.block pb (by omega)).trans HRow6.out); have q2:=(cell_of_row _ _ 0 _ _ _ hrow8); have g2:=(z0i hrow8 0); have HGS8:=zhi hgs8; have HG8:=zhi hg8; have HAT8:=zhi hat8; clear hgs8 hg8 hb8 hrow8 hat8)
      | (go_simp; go_at_call 36; (with_reducible refine HGl.out.mono ?_); rintro e w14 ⟨rfl,hp6,hg6,hl6⟩; dsimp only; have hg6':=(z13 hg6); have hsw14:=hg6'.size; have hsl14:pb<w14.heap.size:=Nat.lt_of_lt_of_le hpl2 hg6'.size; have H14:=zhi (H2.out.step hg6' hp6); have hrow6:=H14.out.row; have d2:=(cell_of_row _ _ 0 _ _ _ hrow6); have HRow6:=zhi hrow6; have HGS6:=zhi H14.out.gs; have HL6:=zhi hl6; clear hg6 hg6' hp6 hrow6 hl6))
    all_goals
     have hu15:=H14.out.pushG HGS8.out HG8.out HAT8.out
     have HE:Hid (SrcL B p tb pb (s.rest.length+1) G Fs s s' w (w15.setCell ⟨pb,0,none⟩ (.slice (some ⟨g8,0,none⟩) (gl.length+1) cap8))∧(s.rest.length+1) - z44 (w15.setCell ⟨pb,0,none⟩ (.slice (some ⟨g8,0,none⟩) (gl.length+1) cap8)) pb<(s.rest.length+1) - z44 wr pb):=zhi ⟨⟨m,gl++[gy.1],fl,gy.2,_,_,_,_,_,_,_,_,_,_,HNX.out,by have:=HN.out; simp; omega,hu15,by have h1:=HL6.out; have:=Hl.out; omega⟩,by rw [hu15.len,HLEN.out]; have:=HN.out; simp; omega⟩
     clear q2 g2 d2 b0 hu15
     go_wp2_with fail
     exact HE.out
   ·have HS:=zhi (z0W false [z0I] _ 1 1 _ H2.out.pa hv rfl (Nat.le_refl _) (by omega) (z4L _ z0I 9))
    have HNX:=zhi hnext
    have hxl:fl.length≤1000000:=by have:=HN.out; have:=HSM.out; omega
    clear hnext hv HNow HU
    go_wp2_with fail
    refine HS.out.mono ?_
    rintro e w2 ⟨rfl,rfl⟩
    obtain ⟨w3,hw3⟩:∃ w3,w3=wr.alloc (.cells #[.string ⟨#[103,108,111,98,97,108]⟩] 9):=⟨_,rfl⟩
    rw [← hw3] at H2 hpl2 ⊢
    clear hw3 HS
    have HFl:=zhi (z6W B HBK.out p tb ss s1 f w3.drew H2.out.pa.drew hfn)
    have hr0:=H2.out.row
    have b0:=cell_of_row _ _ 1 _ _ _ hr0
    clear hr0 hfn
    go_upto_region 5 with fail
    go_region_law
     (first
      | ((with_reducible refine z2Z (k:=4) (T:=55) (S:=27) (V:=MFnX (D+Df) (d+df+1) (obk (.slice gA gl.length gc))) w14 rfl (.tmp 27) (.tmp 30) rfl (z1y _ _ _) (.agg #[.string ⟨#[]⟩,.int .i64 0,.slice none 0 0,.slice none 0 0]) 72 Tryz.underlying27 zfb rfl (by decide) (by decide) (pb+1) (.slice fA fl.length fc) fl Lf f [.string f.name,.int .i64 f.line,.slice A6 m6 c6,.slice bA6 bm6 bc6] (fun q=>w3.heap.size≤q∧q<w14.heap.size) rfl rfl HFS6.out hxl (by omega) rfl (by simp [Value.oneCell']) HFV6.out HFW.out ?_); intro g8 cap8 w15 hfs8 hg8 hat8; have hb8:=(z4O HFS6.out.own hg8 (by omega)); have hrow8:=((hb8.block pb (by omega)).trans HRow6.out); have q2:=(cell_of_row _ _ 1 _ _ _ hrow8); have g2:=(z0i hrow8 1); have HFS8:=zhi hfs8; have HG8:=zhi hg8; have HAT8:=zhi hat8; clear hfs8 hg8 hb8 hrow8 hat8)
      | (go_simp; go_at_call 37; (with_reducible refine HFl.out.mono ?_); rintro e w14 ⟨Df,df,A6,m6,c6,bA6,bm6,bc6,rfl,hm6,hbm6,hps6,hbd6,hp6,hg6,hl6⟩; dsimp only; have hg6':=(z13 hg6); have hsw14:=hg6'.size; have hsl14:pb<w14.heap.size:=Nat.lt_of_lt_of_le hpl2 hg6'.size; have H14:=zhi (H2.out.step hg6' hp6); have hrow6:=H14.out.row; have d2:=(cell_of_row _ _ 1 _ _ _ hrow6); have HRow6:=zhi hrow6; have HFS6:=zhi (zhb H14.out.fs Df df); have HFV6:=zhi (zaK (n0:=w3.heap.size) (X:=obk (.slice gA gl.length gc)) (D:=D) (d:=d) hm6 hbm6 hps6 hbd6 (zgR (n:=w3.heap.size) (fun b hb=>(H2.out.gs.own.lt b hb).2) (Nat.lt_of_le_of_lt (Nat.zero_le _) hpl2))); have HFW:=zhi (zhc (n0:=w3.heap.size) (w14:=w14) H2.out.fs.own hpl2); have HL6:=zhi hl6; clear hg6 hg6' hp6 hrow6 hl6 hm6 hbm6 hps6 hbd6))
    all_goals
     have hu15:=H14.out.pushF HFS8.out HG8.out HAT8.out
     have HE:Hid (SrcL B p tb pb (s.rest.length+1) G Fs s s' w (w15.setCell ⟨pb,1,none⟩ (.slice (some ⟨g8,0,none⟩) (fl.length+1) cap8))∧(s.rest.length+1) - z44 (w15.setCell ⟨pb,1,none⟩ (.slice (some ⟨g8,0,none⟩) (fl.length+1) cap8)) pb<(s.rest.length+1) - z44 wr pb):=zhi ⟨⟨m,gl,fl++[f],s1,_,_,_,_,_,_,_,_,_,_,HNX.out,by have:=HN.out; simp; omega,hu15,by have h1:=HL6.out; have:=Hl.out; omega⟩,by rw [hu15.len,HLEN.out]; have:=HN.out; simp; omega⟩
     clear q2 g2 d2 b0 hu15
     go_wp2_with fail
     exact HE.out
end Go.Proofs.YtdplfnemedckaaaGreatDoor
namespace Go.Proofs.YtdplfnemedckaaaGreatDoor
open Go.RowKit
theorem z3H {B:PSL}:∀ {n:Nat} {gl G:Gls} {fl Fs:List Fn} {s s':PS},z0P B n gl fl s=some (G,Fs,s')→(hdT s').kind=0
 | 0,_,_,_,_,_,_,h=>by cases h
 | n+1,gl,G,fl,Fs,s,s',h=>by
  rcases z43 h with ⟨h1,_,_,rfl⟩ | ⟨_,m,hm,⟨_,h2⟩ | ⟨_,f,s1,_,h2⟩⟩
  ·exact h1
  ·injection hm with hm
   subst hm
   exact z3H h2
  ·injection hm with hm
   subst hm
   exact z3H h2
theorem z7l {w:World} {b:Nat} {c0 c1:Value} {t:TypeId} (v0 v1:Value) (h:w.heap[b]?=some (.cells #[c0,c1] t (0,0))):((w.setCell ⟨b,0,none⟩ v0).setCell ⟨b,1,none⟩ v1).heap[b]?=some (.cells #[v0,v1] t (0,0))∧w.grownBy ((w.setCell ⟨b,0,none⟩ v0).setCell ⟨b,1,none⟩ v1) (some b) :=
 ⟨z0f v1 (z0f v0 h),(z06 w ⟨b,0,none⟩ v0).trans (z06 _ ⟨b,1,none⟩ v1)⟩
def endS (gl:Gls) (fl:List Fn) (s:PS):Except (Nat × Nat) (Gls × List Fn):=if s.ref≠0 then .error (s.ref,7) else if s.out≠0 then .error (s.out,1) else .ok (gl,fl)
def z77 (d:Nat) (l:z03):Option (Except (Nat × Nat) (Gls × List Fn)) :=
 match z1p l with
 | .error q=>some (.error q)
 | .ok ts =>
  match z0P (z1D (z2A d)) (ts.length+1) [] [] ⟨ts,0,0⟩ with
  | none=>none
  | some (gl,fl,s)=>some (endS gl fl s)
set_option maxRecDepth 100000 in
set_option maxHeartbeats 4000000 in
theorem za2 (d:Nat) (str:ByteArray) (x:Except (Nat × Nat) (Gls × List Fn)) (w:World) (hs:str.size≤140737488355328) (he:Errs w) (hP:z77 d str.data.toList=some x):Calls Tryz.prog 18 #[.string str,.func (.func 19) #[] #[]] w (z3J x w):=by
 have hb0:=(Below.refl _ w).alloc (Nat.le_refl _) z1O
 have HS:=zhi (zbS str (w.alloc z1O) hs (he.below hb0))
 have HB0:=zhi hb0
 have HZ0:=zhi (heap_alloc_new w z1O)
 unfold z77 at hP
 cases hsc:z1p str.data.toList with
 | error q =>
  obtain ⟨n,cd⟩:=q
  rw [hsc] at hP HS
  injection hP with hP
  subst hP
  have hcd:(cd=5∨cd=6):=by
   unfold z1p at hsc
   split at hsc
   ·injection hsc with hsc
    injection hsc with _ hsc
    exact .inl hsc.symm
   ·split at hsc
    ·injection hsc with hsc
     injection hsc with _ hsc
     exact .inr hsc.symm
    ·cases hsc
  have hcd':((cd:Int) != 0)=true:=by simp; omega
  unfold z1O at HS HB0 HZ0
  clear hb0 hsc hcd hs he
  go_enter Tryz.func18,Tryz.ntmps18
  go_wp2_with fail
  refine HS.out.mono ?_
  rintro e w1 ⟨rfl,hb1⟩
  have HB1:=zhi (HB0.out.trans (hb1.mono (by simp)))
  have hz1:=(hb1.block _ (by simp)).trans HZ0.out
  have HZ1:=zhi hz1
  obtain ⟨z0,z1⟩:=cl2 hz1
  clear hb1 HS hz1
  go_wp2_with (with_reducible refine z6m ?_)
  refine z0a.of (z00 _ rfl _ _ _ rfl w.heap.size _ rfl (by rfl) _ _ HZ1.out (by kernel_rfl) (by rfl) (by simp [Value.oneCell']) ?_)
  intro w9 hrow9 hg9
  obtain ⟨j0,j1⟩:=cl2 hrow9
  have HE:=zhi (HB1.out.trans (z0b hg9 (fun k hk=>by injection hk with hk; omega) (by have:=HB1.out.size; omega)))
  clear hrow9 hg9 z0 z1
  go_wp2_with fail
  exact bodyPost_ret (by simp [results,Tryz.results18,go_sem,j0,j1]) rfl ⟨rfl,HE.out⟩
 | ok ts =>
  rw [hsc] at hP HS
  dsimp only at hP
  obtain ⟨hwf,hlen⟩:=z8Q hsc
  cases hsr:z0P (z1D (z2A d)) (ts.length+1) [] [] ⟨ts,0,0⟩ with
  | none=>rw [hsr] at hP; cases hP
  | some q =>
   obtain ⟨gl,fl,s'⟩:=q
   rw [hsr] at hP
   injection hP with hP
   subst hP
   have HSR:=zhi hsr
   have HWF:=zhi hwf
   have HLen:=zhi hlen
   have HKD:=zhi (z3H hsr)
   unfold z1O at HS HB0 HZ0
   clear hb0 hsc hs hsr hwf hlen he
   go_enter Tryz.func18,Tryz.ntmps18
   go_wp2_with fail
   refine HS.out.mono ?_
   rintro e w1 ⟨v,rfl,hown,hb1⟩
   obtain ⟨tb,tc,rfl,htb,htl,hra⟩:=zdv hown HWF.out HLen.out
   have hsz1:w.heap.size+1≤w1.heap.size:=by have:=hb1.size; simpa using this
   have htb':w.heap.size+1≤tb:=by simpa using htb
   have hba:=(Below.refl _ w1).alloc (Nat.le_refl _) (.cells #[.slice (some ⟨tb,0,none⟩) ts.length tc,.int .i64 0,.int .i64 0] 91)
   have HB1:=zhi ((HB0.out.trans (hb1.mono (by simp))).trans (hba.mono (by omega)))
   have HZ1:=zhi ((hba.block _ (by omega)).trans ((hb1.block _ (by simp)).trans HZ0.out))
   have HSC:=zhi (z86 (z1D (z2A d)) (z9a d) w1.heap.size tb ⟨ts,0,0⟩ s' gl fl _ (hra 91) HLen.out HSR.out)
   have hszp:w.heap.size<(w1.alloc (.cells #[.slice (some ⟨tb,0,none⟩) ts.length tc,.int .i64 0,.int .i64 0] 91)).heap.size:=by simp; omega
   clear hown hb1 hra hba HS HZ0 HB0
   go_wp2_with fail
   refine HSC.out.mono ?_
   rintro e w2 ⟨D,dd,pb,gA,gm,gc,fA,fm,fc,rfl,hpb,hrp,hgm,hfm,hgs,hfs,hp2,hg2,hl2⟩
   subst hgm hfm
   have hz2:=z04 hg2 (by omega) HZ1.out
   have HZ2:=zhi hz2
   have HGS:=zhi hgs
   have HFS:=zhi hfs
   have HB2:=zhi (show Below w.heap.size w w2 from HB1.out.trans (z0b hg2 (fun k hk=>by injection hk with hk; omega) (by omega)))
   have HEN:=zhi (z6S _ hp2)
   rw [show decide ((hdT s').kind=0)=true from by rw [HKD.out]; rfl] at HEN
   have hlw2:w.heap.size<w2.heap.size:=(Array.getElem?_eq_some_iff.1 hz2).1
   have hszq:=hg2.size
   obtain ⟨z0,z1⟩:=cl2 hz2
   have f0:=z0i hz2 0
   have f1:=z0i hz2 1
   obtain ⟨r0,r1⟩:=cl2 hrp
   obtain ⟨off',c',n',hr⟩:=hp2
   have c1:=hr.cells.2.1
   have c2:=hr.cells.2.2.1
   clear hgs hfs hr hg2 hl2 HSC HZ1 HB1 hz2 hrp
   go_wp2_with fail
   refine HEN.out.mono ?_
   rintro e w4' ⟨rfl,rfl⟩
   clear HEN
   by_cases hrf:s'.ref=0
   ·by_cases hou:s'.out=0
    ·have HX:Hid (endS gl fl s'=.ok (gl,fl)):=zhi (by simp [endS,hrf,hou])
     rw [hrf] at c1
     rw [hou] at c2
     clear hrf hou
     go_wp2_with (with_reducible refine z6m ?_)
     refine z0a.of (z00 _ rfl _ _ _ rfl w.heap.size _ rfl (by rfl) _ _ HZ2.out (by kernel_rfl) (by rfl) (by simp [Value.oneCell']) ?_)
     intro w9 hrow9 hg9
     obtain ⟨j0,j1⟩:=cl2 hrow9
     have hzp:w.heap.size<(w1.alloc (.cells #[.slice (some ⟨tb,0,none⟩) ts.length tc,.int .i64 0,.int .i64 0] 91)).heap.size:=hszp
     have HE:Hid (z3J (endS gl fl s') w (.returned (.tuple #[.agg #[.slice gA gl.length gc,.slice fA fl.length fc],.int .i64 0,.int .i64 0])) w9):=zhi (by rw [HX.out]; exact ⟨D,dd,gA,gc,fA,fc,rfl,HGS.out.keep z1c (fun q hq=>⟨by omega,Nat.lt_of_lt_of_le hq.2 hg9.size⟩) (fun q hq=>hg9.block q hq.2 (fun e=>by injection e with e; omega)),HFS.out.keep (z3f D dd) (fun q hq=>⟨by omega,Nat.lt_of_lt_of_le hq.2 hg9.size⟩) (fun q hq=>hg9.block q hq.2 (fun e=>by injection e with e; omega)),HB2.out.trans (z0b hg9 (fun k hk=>by injection hk with hk; omega) (by omega))⟩)
     clear hrow9 hg9 c1 c2 z0 z1 f0 f1 r0 r1
     go_wp2_with fail
     exact bodyPost_ret (by simp [results,Tryz.results18,go_sem,j0,j1]) rfl HE.out
    ·have HX:Hid (endS gl fl s'=.error (s'.out,1)):=zhi (by simp [endS,hrf,hou])
     rw [hrf] at c1
     have hgt:(0:Int)<(s'.out:Int):=by omega
     clear hrf hou
     go_wp2_with fail
     go_region
     all_goals go_wp2_with fail
     have h6:=z7l (.slice none 0 0) (.slice none 0 0) HZ2.out
     obtain ⟨j0,j1⟩:=cl2 h6.1
     have HH:Hid (z3J (endS gl fl s') w (.returned (.tuple #[.agg #[.slice none 0 0,.slice none 0 0],.int .i64 (s'.out:Int),.int .i64 1])) (World.drew _)):=zhi (by rw [HX.out]; exact ⟨rfl,(HB2.out.trans (z0b h6.2 (fun k hk=>by injection hk with hk; omega) (by omega))).drew⟩)
     clear h6
     all_goals exact bodyPost_ret (by simp [results,Tryz.results18,go_sem,World.cell?_drew,j0,j1]) rfl HH.out
   ·have HX:Hid (endS gl fl s'=.error (s'.ref,7)):=zhi (by simp [endS,hrf])
    have hgt:(0:Int)<(s'.ref:Int):=by omega
    clear hrf
    go_wp2_with fail
    go_region
    all_goals go_wp2_with fail
    have h6:=z7l (.slice none 0 0) (.slice none 0 0) HZ2.out
    obtain ⟨j0,j1⟩:=cl2 h6.1
    have HH:Hid (z3J (endS gl fl s') w (.returned (.tuple #[.agg #[.slice none 0 0,.slice none 0 0],.int .i64 (s'.ref:Int),.int .i64 7])) (World.drew _)):=zhi (by rw [HX.out]; exact ⟨rfl,(HB2.out.trans (z0b h6.2 (fun k hk=>by injection hk with hk; omega) (by omega))).drew⟩)
    clear h6
    all_goals exact bodyPost_ret (by simp [results,Tryz.results18,go_sem,World.cell?_drew,j0,j1]) rfl HH.out
theorem z7S {x:Except (Nat × Nat) (Gls × List Fn)} {w0 w w' w9:World} {T U:Value} {n c:Int} {b:Nat} (h:z3J x w (.returned (.tuple #[.agg #[T,U],.int .i64 n,.int .i64 c])) w') (hb0:w0.heap.size≤b) (hb:b<w.heap.size) (h0:Below w0.heap.size w0 w) (hg:w'.grownBy w9 (some b)):z3J x w0 (.returned (.tuple #[.agg #[T,U],.int .i64 n,.int .i64 c])) w9:=by
 match x,h with
 | .error (n',c'),⟨h1,h2⟩=>exact ⟨h1,(h0.trans (h2.mono h0.size)).trans (z0b hg (fun k hk=>by injection hk with hk; omega) (by have:=h2.size; omega))⟩
 | .ok (gl,fl),⟨D,d,gA,gc,fA,fc,h1,h2,h3,h4⟩ =>
  have hs:=h0.size
  exact ⟨D,d,gA,gc,fA,fc,h1,h2.keep z1c (fun q hq=>⟨by omega,Nat.lt_of_lt_of_le hq.2 hg.size⟩) (fun q hq=>hg.block q hq.2 (fun e=>by injection e with e; omega)),h3.keep (z3f D d) (fun q hq=>⟨by omega,Nat.lt_of_lt_of_le hq.2 hg.size⟩) (fun q hq=>hg.block q hq.2 (fun e=>by injection e with e; omega)),(h0.trans (h4.mono h0.size)).trans (z0b hg (fun k hk=>by injection hk with hk; omega) (by have:=h4.size; omega))⟩
theorem z7R {x:Except (Nat × Nat) (Gls × List Fn)} {w w':World} {e:Ending} (h:z3J x w e w'):∃ A n c B m c' k l,e=.returned (.tuple #[.agg #[.slice A n c,.slice B m c'],.int .i64 k,.int .i64 l])∧Below w.heap.size w w':=by
 match x,h with
 | .error (n',c'),⟨h1,h2⟩=>exact ⟨_,_,_,_,_,_,_,_,h1,h2⟩
 | .ok (gl,fl),⟨D,d,gA,gc,fA,fc,h1,h2,h3,h4⟩=>exact ⟨_,_,_,_,_,_,_,_,h1,h4⟩
set_option maxRecDepth 100000 in
set_option maxHeartbeats 2000000 in
theorem zfA (d:Nat) (str:ByteArray) (x:Except (Nat × Nat) (Gls × List Fn)) (w:World) (hs:str.size≤140737488355328) (he:Errs w) (hP:z77 d str.data.toList=some x):Calls Tryz.prog 8 #[.string str] w (z3J x w):=by
 have hb1:=(Below.refl _ w).alloc (Nat.le_refl _) z1O
 have HZ:=zhi (heap_alloc_new w z1O)
 have HW:=zhi (za2 d str x _ hs (he.below hb1) hP)
 have HB1:=zhi hb1
 unfold z1O at HZ HW HB1
 clear hb1 he hs hP
 go_enter Tryz.func8,Tryz.ntmps8
 go_wp2_with fail
 refine HW.out.mono ?_
 intro e w2 hx
 obtain ⟨A,n,c,B,m,c',k,l,rfl,hb2⟩:=z7R hx
 have HX:=zhi hx
 have hz2:=(hb2.block _ (by simp)).trans HZ.out
 have hsz:=hb2.size
 have HZ2:=zhi hz2
 clear HW hb2 hz2 hx
 go_wp2_with (with_reducible refine z6m ?_)
 refine z0a.of (z00 _ rfl _ _ _ rfl _ _ rfl (by rfl) _ _ HZ2.out (by kernel_rfl) (by rfl) (by simp [Value.oneCell']) ?_)
 intro w5 hrow5 hg5
 obtain ⟨j0,j1⟩:=cl2 hrow5
 have HH:=zhi (z7S (w0:=w) (b:=w.heap.size) HX.out (Nat.le_refl _) (by simp) HB1.out hg5)
 clear hrow5 hg5
 go_wp2_with fail
 exact bodyPost_ret (by simp [results,Tryz.results8,go_sem,j0,j1]) rfl HH.out
end Go.Proofs.YtdplfnemedckaaaGreatDoor
