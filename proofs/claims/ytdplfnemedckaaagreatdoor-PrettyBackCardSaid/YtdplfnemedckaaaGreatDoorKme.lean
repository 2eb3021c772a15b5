/-
  Kme: PrBk, PrTs, PrLaw. Walks and laws that the statement's proof is made of. No condition of its own.
-/
import Derived.Test.YtdplfnemedckaaaGreatDoorKi
import Derived.Test.YtdplfnemedckaaaGreatDoorKla
import Derived.Test.YtdplfnemedckaaaGreatDoorKma
import Derived.Test.YtdplfnemedckaaaGreatDoorKmd
import Derived.Test.YtdplfnemedckaaaGreatDoorKq
import Derived.Test.YtdplfnemedckaaaGreatDoorLaz
namespace Go.Proofs.YtdplfnemedckaaaGreatDoor
open Go.RowKit
mutual
def ndX:Ex→Nat
 | .mk _ _ _ _ _ xs=>1+ndL xs
def ndL:List Ex→Nat
 | []=>0
 | x :: r=>ndX x+ndL r
end
theorem zbn (x:Ex):1≤ndX x:=by cases x; simp [ndX]
def OkS (s:PS):Prop:=WFt s.rest∧∀ t∈s.rest,1≤t.line∧(t.kind≠0→zcB t)
theorem OkS.mem {s:PS} (h:OkS s):hdT s∈s.rest:=by
 have:=h.1.pos
 cases hq:s.rest with
 | nil=>rw [hq] at this; simp at this
 | cons a l=>simp [hdT,hq]
theorem OkS.pop {s:PS} (h:OkS s) (h2:2≤s.rest.length):OkS (popP s):=⟨h.1.tail h2,fun t ht=>h.2 t (List.mem_of_mem_tail ht)⟩
theorem OkS.refuse {s:PS} (h:OkS s):OkS (z0k s)∧(z0k s).ref≠0:=by
 refine ⟨⟨h.1.last,fun t ht=>h.2 t (List.mem_of_mem_drop ht)⟩,?_⟩
 have:=(h.2 _ h.mem).1
 show (if s.ref=0 then (hdT s).line else s.ref)≠0
 split <;> omega
theorem OkS.sees {s:PS} (h:OkS s) {t:z03} (ht:t≠[]) (hs:z0c [t] s=true):OkS (popP s)∧(popP s).rest.length+1=s.rest.length:=by
 have h2:=z0t h.1 (l:=[t]) (by simpa using ht) hs
 exact ⟨h.pop h2,by rw [z0h]; omega⟩
theorem OkS.sees_any {s:PS} (h:OkS s) {l:List z03} (ht:[] ∉ l) (hs:z0c l s=true):OkS (popP s)∧(popP s).rest.length+1=s.rest.length:=by
 have h2:=z0t h.1 ht hs
 exact ⟨h.pop h2,by rw [z0h]; omega⟩
theorem OkS.demand {s:PS} (h:OkS s) {t:z03} (ht:t≠[]):OkS (z09 t s)∧((z09 t s).ref=0→s.ref=0∧(z09 t s).rest.length+1=s.rest.length):=by
 unfold z09
 split
 ·rename_i hs
  have:=h.sees ht hs
  exact ⟨this.1,fun h0=>⟨h0,this.2⟩⟩
 ·have:=h.refuse
  exact ⟨this.1,fun h0=>absurd h0 this.2⟩
theorem OkS.expect {s:PS} (h:OkS s):OkS (z07 1 s).2∧((z07 1 s).2.ref=0→s.ref=0∧(z07 1 s).2.rest.length+1=s.rest.length∧(hdT s).kind=1∧(z07 1 s).1=hdT s∧zcB (hdT s)):=by
 unfold z07
 split
 ·rename_i hk
  have h2:=WFt.two h.1 (.inr (by omega:(hdT s).kind≠0))
  exact ⟨h.pop h2,fun h0=>⟨h0,by rw [z0h]; omega,hk,rfl,(h.2 _ h.mem).2 (by omega)⟩⟩
 ·have:=h.refuse
  exact ⟨this.1,fun h0=>absurd h0 this.2⟩
def Lvl (l:List z03):Prop:=∀ t∈l,t∈([[42],[47],[37],[43],[45],[60],[60,61],[61,61],[33,61],[38,38],[124,124]]:List z03)
theorem Lvl.ne {l:List z03} (h:Lvl l):[] ∉ l:=fun h0=>by
 have:=h _ h0
 simp at this
theorem WfX.bare {k o a l:Int} {nm:ByteArray} {xs:List Ex} (h:WfX (.mk k o a l nm xs)) (hk:k=13):isNm nm.data.toList=true∧xs=[]:=by
 subst hk
 cases h with
 | nam _ _ h=>exact ⟨h,rfl⟩
end Go.Proofs.YtdplfnemedckaaaGreatDoor
namespace Go.Proofs.YtdplfnemedckaaaGreatDoor
open Go.RowKit
theorem z69 {s:ByteArray} (h:isNm s.data.toList=true):s.size≤1000:=by
 rw [Lib.size_eq]
 cases e:s.data.toList with
 | nil=>simp
 | cons c r =>
  rw [e] at h
  simp only [isNm,Bool.and_eq_true,decide_eq_true_eq] at h
  simp only [List.length_cons]
  omega
theorem z7J {x:Ex}:∀ {xs:List Ex},x∈xs→ndX x≤ndL xs
 | [],h=>by simp at h
 | y :: r,h=>by
  simp only [ndL]
  rcases List.mem_cons.1 h with rfl | h
  ·omega
  ·have:=z7J h; omega
theorem z7I:∀ xs:List Ex,xs.length≤ndL xs
 | []=>by simp
 | y :: r=>by
  have:=z7I r
  have:=zbn y
  simp only [ndL,List.length_cons]
  omega
theorem zha {x:Ex} (h:WfX x):∀ d,Dp d x→ndX x≤1000→ShP d x:=by
 induction h with
 | num a l h1 h2 =>
  intro d hd hn
  cases d with
  | zero=>exact hd.elim
  | succ d=>exact ⟨by simp,by decide,h1,h2,by decide,by decide,fun x hx=>by simp at hx,.inl rfl⟩
 | nam l s h =>
  intro d hd hn
  cases d with
  | zero=>exact hd.elim
  | succ d=>exact ⟨by simp,z69 h,by decide,by decide,by decide,by decide,fun x hx=>by simp at hx,by simp⟩
 | fn l s h =>
  intro d hd hn
  cases d with
  | zero=>exact hd.elim
  | succ d=>exact ⟨by simp,z69 h,by decide,by decide,by decide,by decide,fun x hx=>by simp at hx,by simp⟩
 | rd l =>
  intro d hd hn
  cases d with
  | zero=>exact hd.elim
  | succ d=>exact ⟨by simp,by decide,by decide,by decide,by decide,by decide,fun x hx=>by simp at hx,by simp⟩
 | el l s x h hx ih =>
  intro d hd hn
  simp only [ndX,ndL] at hn
  cases d with
  | zero=>exact hd.elim
  | succ d=>exact ⟨by simp,z69 h,by decide,by decide,by decide,by decide,fun y hy=>by rw [List.mem_singleton] at hy; subst hy; exact ih d (hd y (by simp)) (by omega),by simp⟩
 | un o l x h1 h2 hx ih =>
  intro d hd hn
  simp only [ndX,ndL] at hn
  cases d with
  | zero=>exact hd.elim
  | succ d=>exact ⟨by simp,by decide,by decide,by decide,by omega,by omega,fun y hy=>by rw [List.mem_singleton] at hy; subst hy; exact ih d (hd y (by simp)) (by omega),by simp⟩
 | bin o l x y h1 h2 hx hy ih1 ih2 =>
  intro d hd hn
  simp only [ndX,ndL] at hn
  cases d with
  | zero=>exact hd.elim
  | succ d=>exact ⟨by simp,by decide,by decide,by decide,by omega,h2,fun z hz=>by
    simp only [List.mem_cons,List.not_mem_nil,or_false] at hz
    rcases hz with rfl | rfl
    ·exact ih1 d (hd _ (by simp)) (by omega)
    ·exact ih2 d (hd _ (by simp)) (by omega),by simp⟩
 | and_ l x y hx hy ih1 ih2 =>
  intro d hd hn
  simp only [ndX,ndL] at hn
  cases d with
  | zero=>exact hd.elim
  | succ d=>exact ⟨by simp,by decide,by decide,by decide,by decide,by decide,fun z hz=>by
    simp only [List.mem_cons,List.not_mem_nil,or_false] at hz
    rcases hz with rfl | rfl
    ·exact ih1 d (hd _ (by simp)) (by omega)
    ·exact ih2 d (hd _ (by simp)) (by omega),by simp⟩
 | or_ l x y hx hy ih1 ih2 =>
  intro d hd hn
  simp only [ndX,ndL] at hn
  cases d with
  | zero=>exact hd.elim
  | succ d=>exact ⟨by simp,by decide,by decide,by decide,by decide,by decide,fun z hz=>by
    simp only [List.mem_cons,List.not_mem_nil,or_false] at hz
    rcases hz with rfl | rfl
    ·exact ih1 d (hd _ (by simp)) (by omega)
    ·exact ih2 d (hd _ (by simp)) (by omega),by simp⟩
 | call l s xs h hxs ih =>
  intro d hd hn
  simp only [ndX] at hn
  cases d with
  | zero=>exact hd.elim
  | succ d =>
   have:=z7I xs
   exact ⟨by omega,z69 h,by decide,by decide,by decide,by decide,fun y hy=>ih y hy d (hd y hy) (by have:=z7J hy; omega),by simp⟩
 | val l x xs hx hxs ih1 ih2 =>
  intro d hd hn
  simp only [ndX,ndL] at hn
  cases d with
  | zero=>exact hd.elim
  | succ d =>
   have:=z7I xs
   have:=zbn x
   exact ⟨by simp; omega,by decide,by decide,by decide,by decide,by decide,fun y hy=>by
    rcases List.mem_cons.1 hy with rfl | hy
    ·exact ih1 d (hd _ (by simp)) (by omega)
    ·exact ih2 y hy d (hd y (by simp [hy])) (by have:=z7J hy; omega),by simp⟩
end Go.Proofs.YtdplfnemedckaaaGreatDoor
namespace Go.Proofs.YtdplfnemedckaaaGreatDoor
open Go.RowKit
theorem zcG {W a b:World} {g:Nat} (h:Below W.heap.size W a) (hg:a.grownBy b (some g)) (hW:W.heap.size≤g):Below W.heap.size W b :=
 h.trans (z0b hg (fun k hk=>by injection hk with hk; omega) h.size)
theorem zeS {a b:World} {g:Nat} (h:Errs a) (hg:a.grownBy b (some g)) (h1:4<g) (h2:5<g):Errs b :=
 h.grown hg (fun e=>absurd (show g=4 by injection e) (Nat.ne_of_gt h1)) (fun e=>absurd (show g=5 by injection e) (Nat.ne_of_gt h2))
theorem PowT.lt {w:World} (h:PowT w):1<w.heap.size:=by
 unfold PowT Lib.TabIs World.var? at h
 rw [gTab] at h
 simp only [Option.bind_some] at h
 rcases Nat.lt_or_ge 1 w.heap.size with h' | h'
 ·exact h'
 ·rw [Array.getElem?_eq_none h'] at h; cases h
theorem PowT.low {w w':World} (h:PowT w) (hb:Below w.heap.size w w'):PowT w':=h.next hb h.lt
theorem PowT.gp {a b:World} {g:Nat} (h:PowT a) (hg:a.grownBy b (some g)) (h1:1<g):PowT b :=
 h.next (B:=1+1) (z0b hg (fun k hk=>by injection hk with hk; omega) (by have:=h.lt; omega)) (Nat.lt_succ_self _)
theorem zdY:(Rows.laid_internal_strconv_uint64pow10:DataW Unit)=Lib.tabData .u64 Lib.pow10Tab:=by
 unfold Rows.laid_internal_strconv_uint64pow10 Lib.tabData Lib.pow10Tab
 simp [List.range,List.range.loop]
theorem zd0:(Tryz.prog.globals[1]?).map (·.type)=some 164:=by kernel_rfl
theorem powT_laid {W : World} (h : laidMet Tryz.prog [("math/bits.deBruijn32tab", Rows.laid_math_bits_deBruijn32tab), ("math/bits.deBruijn64tab", Rows.laid_math_bits_deBruijn64tab), ("internal/strconv.uint64pow10", Rows.laid_internal_strconv_uint64pow10), ("strconv.ErrRange", Rows.laid_strconv_ErrRange), ("strconv.ErrSyntax", Rows.laid_strconv_ErrSyntax)] W) : PowT W := by
 have h2:=h.tail.tail
 rw [zdY] at h2
 exact Lib.tabIs_of_head gTab zd0 Tryz.underlying164 Tryz.underlying154 (by kernel_rfl) (by kernel_rfl) h2
def tree5:Ex:=.mk 6 3 0 1 ⟨#[]⟩ [.mk 1 0 1 1 ⟨#[]⟩ [],.mk 6 5 0 1 ⟨#[]⟩ [.mk 1 0 2 1 ⟨#[]⟩ [],.mk 1 0 3 1 ⟨#[]⟩ []]]
def ts5:List Tok:=[⟨2,1,1,[49]⟩,⟨4,1,0,[43]⟩,⟨2,1,2,[50]⟩,⟨4,1,0,[42]⟩,⟨2,1,3,[51]⟩,⟨0,1,0,[]⟩]
theorem zgO:z5k [49,43,50,42,51]=.ok tree5:=by
 have hs:scan 1 [49,43,50,42,51]=.ok ts5:=by
  rw [← z3Z 6 1 _ (by decide)]
  kernel_rfl
 have he:z1a ts5.length ⟨ts5,0,0⟩=some (tree5,⟨[⟨0,1,0,[]⟩],0,0⟩):=by kernel_rfl
 unfold z5k
 rw [hs]
 simp only [he]
 rfl
theorem wf_5:WfX tree5:=.bin 3 1 _ _ (by decide) (by decide) (.num 1 1 (by decide) (by decide)) (.bin 5 1 _ _ (by decide) (by decide) (.num 2 1 (by decide) (by decide)) (.num 3 1 (by decide) (by decide)))
theorem nl_1:numL (max (1:Int) 0).toNat=[49]:=by
 rw [show (max (1:Int) 0).toNat=1 from rfl,numL]
 rfl
theorem nl_2:numL (max (2:Int) 0).toNat=[50]:=by
 rw [show (max (2:Int) 0).toNat=2 from rfl,numL]
 rfl
theorem nl_3:numL (max (3:Int) 0).toNat=[51]:=by
 rw [show (max (3:Int) 0).toNat=3 from rfl,numL]
 rfl
theorem zf0:∀ d,Dp d tree5→fmtE d tree5=[49,32,43,32,40,50,32,42,32,51,41]
 | 0,h=>h.elim
 | 1,h=>((h:∀ x∈_,Dp 0 x) _ (List.mem_cons_self ..)).elim
 | 2,h=>by
  have h1:=(h:∀ x∈_,Dp 1 x) (.mk 6 5 0 1 ⟨#[]⟩ [.mk 1 0 2 1 ⟨#[]⟩ [],.mk 1 0 3 1 ⟨#[]⟩ []]) (by simp)
  exact ((h1:∀ x∈_,Dp 0 x) _ (List.mem_cons_self ..)).elim
 | d+3,_=>by
  simp [tree5,fmtE,z0D,Ex.kind,z1U,nl_1,nl_2,nl_3]
set_option maxRecDepth 100000 in
set_option maxHeartbeats 2000000 in
theorem zeJ (w:World) (ht:PowT w):Calls Tryz.prog 4 #[] w (RetV (.bool true) w):=by
 have HP:=zhi (z7Y ⟨#[49,43,50,42,51]⟩ w (by decide))
 have HT:=zhi ht
 have hlt:=ht.lt
 clear ht
 go_enter Tryz.func4,Tryz.ntmps4
 go_wp2_with fail
 refine HP.out.mono ?_
 rintro e w1 ⟨d,k,o,a,l,nm,A,n,c,rfl,hx,hb⟩
 have hm:z5k (⟨#[49,43,50,42,51]⟩:ByteArray).data.toList=.ok tree5:=zgO
 rw [hm] at hx ⊢
 have hx2:ExV (fun q=>w.heap.size≤q∧q<w1.heap.size) w1 d tree5 (.agg #[.int .i64 k,.int .i64 o,.int .i64 a,.int .i64 l,.string nm,.slice A n c]):=hx.out
 have hd:=zgm hx2
 have hb1:=(Below.refl _ w1).alloc (Nat.le_refl _) (.cells #[.int .i64 k,.int .i64 o,.int .i64 a,.int .i64 l,.string nm,.slice A n c] 39)
 have hbb:=z0d hb hb1
 have hr:=heap_alloc_new w1 (.cells #[.int .i64 k,.int .i64 o,.int .i64 a,.int .i64 l,.string nm,.slice A n c] 39)
 have HE:=zhi (z5D (fun q=>w.heap.size≤q∧q<w1.heap.size) d tree5 k o a l nm A n c _ (hx2.keep (fun _ h=>h) (fun q hq=>hb1.block q hq.2)) (fun q hq=>Nat.lt_of_lt_of_le hq.2 hb1.size) (zha wf_5 d hd (by decide)) (HT.out.low hbb) (Nat.lt_of_lt_of_le hlt hbb.size) (by rw [zf0 d hd]; decide) (by rw [zf0 d hd]; simp))
 rw [zf0 d hd] at HE
 obtain ⟨j0,j1,j2,j3,j4,j5⟩:=cl6 hr
 have HB:=zhi hbb
 clear HP hx hx2 hd hb hb1 hbb hr hm
 go_wp2_with fail
 refine HE.out.mono ?_
 rintro e w2 ⟨t,rfl,ht,hb2⟩
 have HB2:=zhi (z0d HB.out hb2)
 obtain rfl:t=⟨#[49,32,43,32,40,50,32,42,32,51,41]⟩:=zeN ht.out
 clear hb2 HE HB ht j0 j1 j2 j3 j4 j5
 go_wp2_with fail
 go_ret
 exact ⟨rfl,HB2.out⟩
end Go.Proofs.YtdplfnemedckaaaGreatDoor
