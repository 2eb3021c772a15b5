/-
  Kz: LayL. Walks and laws that the statement's proof is made of. No condition of its own.
-/
import Derived.Test.YtgcjcclkialdgaaGreatDoorKo
import Derived.Test.YtgcjcclkialdgaaGreatDoorKxa
import Derived.Test.YtgcjcclkialdgaaGreatDoorKy
import Derived.Test.YtgcjcclkialdgaaGreatDoorKq
import Derived.Laws.IdiomStrings
namespace Go.Proofs.YtgcjcclkialdgaaGreatDoor
open Go.RowKit
theorem z6T {W a b:World} {g:Nat} (h:Below W.heap.size W a) (hg:a.grownBy b (some g)) (hW:W.heap.size≤g):Below W.heap.size W b :=
 h.trans (z0f hg (fun k hk=>by injection hk with hk; omega) h.size)
theorem z8Z {a b:World} {g:Nat} (h:Errs a) (hg:a.grownBy b (some g)) (h1:1<g) (h2:2<g):Errs b :=
 h.grown hg (fun e=>absurd (show g=1 by injection e) (Nat.ne_of_gt h1)) (fun e=>absurd (show g=2 by injection e) (Nat.ne_of_gt h2))
def NxC (g:Nat) (l:List Nat) (n:Nat) (w:World) (e:Ending) (w':World):Prop:=∃ r:Nat,e=.returned (.int .i64 (r:Int))∧(1≤n→r<n)∧(∃ k,z0S w' g l k)∧w.grownBy w' (some g)
theorem ze0 {g:Nat} {l:List Nat} {w:World} (hc:∃ k,z0S w g l k) (hlen:l.length≤1000000) (hl:∀ x∈l,x<256) (n:Nat) (z:Int) (hz:z=(n:Int)) (hn:n≤1000000000) :
  Calls Tryz.prog 7 #[.pointer (some ⟨g,0,none⟩),.int .i64 z] w (NxC g l n w):=by
 subst hz
 obtain ⟨k,hk⟩:=hc
 exact (z3e g l k n w hk hn hlen hl).mono fun e w' ⟨r,k',h1,h2,_,h4,h5⟩=>⟨r,h1,fun hh=>by have:=h2 (by omega); omega,⟨k',h4⟩,h5⟩
set_option maxRecDepth 10000 in
theorem zcU (n m:Nat) (gA gB fA fB:Option Addr) (gc gc2 fc fc2:Nat) (w:World) (HE:∀ W,Below w.heap.size w W→Calls Tryz.prog 15 #[.agg #[.slice gA n gc,.slice fA m fc],.agg #[.slice gB n gc2,.slice fB m fc2],.bool false] W (RetG true W)) :
  Calls Tryz.prog 9 #[.agg #[.slice gA n gc,.slice fA m fc],.agg #[.slice gB n gc2,.slice fB m fc2]] w (RetG true w):=by
 have HH:=zhi HE
 have hb0:=((Below.refl _ w).alloc (Nat.le_refl _) (.cells #[.slice gA n gc,.slice fA m fc] 32)).alloc (by simp) (.cells #[.slice gB n gc2,.slice fB m fc2] 32)
 have hr1:=z0O w (.cells #[.slice gA n gc,.slice fA m fc] 32) (.cells #[.slice gB n gc2,.slice fB m fc2] 32)
 have hr2:=z0J w (.cells #[.slice gA n gc,.slice fA m fc] 32) (.cells #[.slice gB n gc2,.slice fB m fc2] 32)
 obtain ⟨c0,c1⟩:=cl2 hr1
 obtain ⟨e0,e1⟩:=cl2 hr2
 have HB:=zhi hb0
 clear HE hb0 hr1 hr2
 go_enter Tryz.func9,Tryz.ntmps9
 go_wp2_with fail
 refine (HH.out _ HB.out).mono ?_
 rintro e w' ⟨rfl,hb⟩
 have HB2:=zhi (z09 HB.out hb)
 clear hb HB HH c0 c1 e0 e1
 go_wp2_with fail
 go_ret
 exact ⟨rfl,HB2.out⟩
theorem z63 {gl:Gls} {fl:List Fn} {w w':World} {e:Ending} (h:z39 (.ok (gl,fl)) w e w'):∃ D d gA gc fA fc,e=.returned (.tuple #[.agg #[.slice gA gl.length gc,.slice fA fl.length fc],.int .i64 0,.int .i64 0]) ∧
  RowG 2 MGl (fun q=>w.heap.size≤q∧q<w'.heap.size) w' gl gA gc∧RowG 4 (MFn D d) (fun q=>w.heap.size≤q∧q<w'.heap.size) w' fl fA fc∧Below w.heap.size w w':=h
theorem zdz (l:z03) (k:Nat):W (l.take k)≤W l:=by
 have h:l.take k++l.drop k=l:=List.take_append_drop k l
 have h2:W (l.take k++l.drop k)=W (l.take k)+W (l.drop k):=by unfold W; rw [List.map_append,List.sum_append]
 rw [h] at h2
 omega
theorem z7b {l:z03} {k:Nat} {c:UInt8} (h:l[k]?=some c):l.take (k+1)=l.take k++[c]:=by
 rw [List.take_add_one,h]
 rfl
theorem zck {s:ByteArray} {k:Nat} {c:UInt8} (h:s.data.toList[k]?=some c):(s.extract k (k+1)).data.toList=[c]:=by
 have e:(s.extract k (k+1)).data.toList=(s.data.toList.drop k).take 1:=by simp [ByteArray.data_extract]
 rw [e]
 obtain ⟨hk,hc⟩:=List.getElem?_eq_some_iff.1 h
 rw [List.drop_eq_getElem_cons hk,hc]
 rfl
def zbL:Array Value:=#[.string ⟨#[32]⟩,.string ⟨#[10]⟩,.string ⟨#[32,32,35,32,110,111,116,101,10]⟩]
def LyR (w0:World) (g:Nat) (cs:List Nat) (T:z03) (n:Nat) (s i:Value) (wr:World):Prop :=
 ∃ (k:Nat) (t:ByteArray),k≤n∧s=.string t∧i=.int .i64 (k:Int)∧Lay (T.take k) t.data.toList∧(∃ j,z0S wr g cs j)∧w0.grownBy wr (some g)
set_option maxRecDepth 100000 in
set_option maxHeartbeats 4000000 in
theorem layout_any (A0:Option Addr) (codes:List Nat) (m c0:Nat) (ln:Nat) (w:World) (he:Errs w) (hm:codes.length=m) (hmc:m≤c0) (hr:Rd w A0 (codes.map bv)) (hcs:∀ x∈codes,x<256) (hln:ln<256) :
  Calls Tryz.prog 3 #[.slice A0 m c0,.int .u8 (ln:Int)] w fun e w'=>e=.returned (.bool true)∧Below w.heap.size w w':=by
 have ha:=zhi (zce w he)
 have He:=zhi he
 have Hm:=zhi hm
 have Hr:=zhi hr
 have Hcs:=zhi hcs
 have het:=he.lt
 clear he hm hr hcs
 go_enter Tryz.func3,Tryz.ntmps3
 go_wp2_with fail
 refine ha.out.mono ?_
 rintro e w1 ⟨rfl,hb1⟩
 have hn:=zhi (zcK A0 codes m c0 400 w1 Hm.out hmc (Hr.out.below hb1) (by decide))
 have He1:=zhi (He.out.below hb1)
 have Hb1:=zhi hb1
 clear ha hb1 Hr Hm
 go_wp2_with fail
 refine hn.out.mono ?_
 rintro e w2 ⟨g,cs,rfl,hg,hlen,rfl,hc2,hb2⟩
 have Hcl:Hid (∀ x∈codes.take 400,x<256):=zhi (fun x hx=>Hcs.out x (List.mem_of_mem_take hx))
 generalize codes.take 400=cs at *
 have hgw:w.heap.size≤g:=Nat.le_trans Hb1.out.size hg
 have hg2:g<w2.heap.size:=z3c hc2
 have hx:=zhi (zah g cs w2 ⟨0,hc2⟩ (by omega) Hcl.out)
 have He2:=zhi (He1.out.below hb2)
 have Hb2:=zhi (z09 Hb1.out hb2)
 clear hn hb2 hc2 Hcs He1 Hb1
 go_wp2_with fail
 refine hx.out.mono ?_
 rintro e w3 ⟨s,gl,fl,rfl,hs,hgg,hgf,hgl,hfl,hc3,hg3⟩
 have He3:=zhi (z8Z He2.out hg3 (by omega) (by omega))
 have Hb3:=zhi (z6T Hb2.out hg3 hgw)
 have h23:=hg3.size
 have HW:Hid (W s.data.toList≤65000):=zhi (by rw [hs]; exact zdL (d:=2) (by omega) hgg hgf hgl hfl)
 have hU:U s.data.toList=some ((tkP gl fl++[eofT]).map unl):=by rw [hs]; exact zco (d:=2) hgg hgf
 have HU:=zhi hU
 have HPP:Hid (∀ l:z03,l.length≤65536→U l=some ((tkP gl fl++[eofT]).map unl)→∃ F,z3J 3 l=some (.ok (gl,F))∧F.map rlF=(fl.map cnF).map rlF):=zhi (fun l hl h=>by
  obtain ⟨us,h1,h2⟩:=zcW hl h
  exact zb7 hgg hgf h1 h2)
 have hsz:s.data.toList.length=s.size:=by simp
 have hn0:s.size≤65000:=by rw [← hsz]; exact Nat.le_trans (zdu _) HW.out
 have Hc3:=zhi hc3
 have hgt:g<w3.heap.size:=by omega
 obtain ⟨n,hn⟩:∃ n,s.size=n:=⟨_,rfl⟩
 have Hn:=zhi hn
 rw [hn] at hn0
 have hsn:=zhi (hsz.trans hn)
 clear hx hs hgg hgf hgl hfl hc3 hg3 hU He2 Hb2 h23 hn hsz
 go_wp2_with fail
 go_loopw [7,8] (fun s2 i wr=>LyR w3 g cs s.data.toList n s2 i wr) (fun _ i _=>n - (intOf i).toNat)
 case atStart=>exact ⟨0,⟨#[]⟩,Nat.zero_le _,rfl,rfl,Lay.nil,Hc3.out,z02 (Below.refl _ _) _⟩
 case round =>
  obtain ⟨k,t,hk,rfl,rfl,hlay,hc,hg⟩:=hrel
  have Hlay:=zhi hlay
  have Hc:=zhi hc
  have Hg:=zhi hg
  have hwr:=hg.size
  clear hlay hc hg
  by_cases hlt:k<n
  ·have hks:k<s.size:=by rw [Hn.out]; exact hlt
   obtain ⟨c,hcc⟩:∃ c:UInt8,s[k]'hks=c:=⟨_,rfl⟩
   have hget:s.data.toList[k]?=some c:=by
    rw [List.getElem?_eq_getElem (by rw [hsn.out]; exact hlt),← hcc]
    rfl
   have htz:t.size≤65000:=by
    have h1:=z4Q Hlay.out
    have h2:=zdz s.data.toList k
    have h3:=HW.out
    have h4:t.data.toList.length=t.size:=by simp
    omega
   have Hget:=zhi hget
   clear hget
   cases hgap:z2H c with
   | true =>
    have HS:Hid (∀ (q:Nat) (X:ByteArray),X.data.toList=gapL q→Lay (s.data.toList.take (k+1)) (t++X).data.toList):=zhi (fun q X hX=>by
     rw [z7b Hget.out,show (t++X).data.toList=t.data.toList++X.data.toList by simp,hX]
     exact Hlay.out.append (by simpa using Lay.gap c q [] [] hgap Lay.nil))
    have hw:(c.toNat:Int)=32∨(c.toNat:Int)=10:=by
     simp only [z2H,Bool.or_eq_true,decide_eq_true_eq] at hgap
     omega
    have HC:Hid (∀ o,∃ j,z0S (wr.alloc o) g cs j):=zhi (fun o=>by obtain ⟨j,hj⟩:=Hc.out; exact ⟨j,z1j hj ((Below.refl _ wr).alloc (Nat.le_refl _) o)⟩)
    have hnx:=zhi (fun o=>ze0 (HC.out o) (by omega) Hcl.out 3 3 rfl (by omega))
    clear hgap Hlay
    rcases hw with hw | hw
    all_goals
     go_wp2_with fail
     refine (hnx.out _).mono ?_
     rintro e w5 ⟨q,rfl,hq,hc5,hg5⟩
     have hq3:=hq (by omega)
     have hwq:wr.heap.size≠g:=by omega
     have hrow:=heap_alloc_new wr (.cells zbL 9)
     have hcell:∀ i v,zbL[i]?=some v→w5.cell? ⟨wr.heap.size,i,none⟩=some v:=fun i v hv=>z07 hg5 hwq ((cell_of_row _ _ i _ _ _ hrow).trans hv)
     have HH:Hid (∀ X:ByteArray,X.data.toList=gapL q→LyR w3 g cs s.data.toList n (.string (t++X)) (.int .i64 ((k:Int)+1)) w5):=zhi (fun X hX=>⟨k+1,_,by omega,rfl,by go_num,HS.out q X hX,hc5,(Hg.out.trans (World.grownBy_alloc wr _ (some g))).trans hg5⟩)
     have hcase:q=0∨q=1∨q=2:=by omega
     clear hnx hq hc5 hg5 hq3 HS HC hrow
     rcases hcase with rfl | rfl | rfl
     ·have d0:w5.cell? ⟨wr.heap.size,0,none⟩=some (.string ⟨#[32]⟩):=hcell 0 _ rfl
      clear hcell
      go_wp2_with fail
      exact ⟨HH.out ⟨#[32]⟩ rfl,by simp [intOf]; omega⟩
     ·have d0:w5.cell? ⟨wr.heap.size,1,none⟩=some (.string ⟨#[10]⟩):=hcell 1 _ rfl
      clear hcell
      go_wp2_with fail
      exact ⟨HH.out ⟨#[10]⟩ rfl,by simp [intOf]; omega⟩
     ·have d0:w5.cell? ⟨wr.heap.size,2,none⟩=some (.string ⟨#[32,32,35,32,110,111,116,101,10]⟩):=hcell 2 _ rfl
      clear hcell
      go_wp2_with fail
      exact ⟨HH.out ⟨#[32,32,35,32,110,111,116,101,10]⟩ rfl,by simp [intOf]; omega⟩
   | false =>
    have HS:Hid (∀ (X:ByteArray),X.data.toList=[c]→Lay (s.data.toList.take (k+1)) (t++X).data.toList):=zhi (fun X hX=>by
     rw [z7b Hget.out,show (t++X).data.toList=t.data.toList++X.data.toList by simp,hX]
     exact Hlay.out.append (Lay.same c [] [] hgap Lay.nil))
    have h32:((c.toNat:Int) == 32)=false:=by
     simp only [z2H,Bool.or_eq_false_iff,decide_eq_false_iff_not] at hgap
     simp
     omega
    have h10:((c.toNat:Int) == 10)=false:=by
     simp only [z2H,Bool.or_eq_false_iff,decide_eq_false_iff_not] at hgap
     simp
     omega
    have hff:(9223372036854775807<t.size+(min (k+1) n - k))=False:=z0n (show t.size+(min (k+1) n - k)≤65001 by omega) (by decide)
    have HX:Hid ((s.extract k (k+1)).data.toList=[c]):=zhi (zck Hget.out)
    clear hgap Hlay
    go_wp2_with fail
    exact ⟨⟨k+1,_,by omega,rfl,by go_num,HS.out _ HX.out,Hc.out,Hg.out⟩,by simp [intOf]; omega⟩
  ·obtain rfl:k=n:=by omega
   have hlay:=Hlay.out
   rw [List.take_of_length_le (by rw [hsn.out]; exact Nat.le_refl _)] at hlay
   have hz:t.size≤65000:=by
    have h1:=z4Q hlay
    have h3:=HW.out
    have h4:t.data.toList.length=t.size:=by simp
    omega
   have HUt:Hid (U t.data.toList=some ((tkP gl fl++[eofT]).map unl)):=zhi ((zeQ _ _ _ (Nat.le_refl _) (W_no (by have:=HW.out; omega)) hlay).trans HU.out)
   have Her:=zhi (z8Z He3.out Hg.out (by omega) (by omega))
   have Hb4:=zhi (z6T Hb3.out Hg.out hgw)
   have hle:s.size≤k:=by rw [Hn.out]; exact Nat.le_refl _
   clear hlay Hlay Hc Hg Hc3 He3 Hb3 hlt
   obtain ⟨v5,hv5,hv5b⟩:∃ v5:Nat,ln % 5=v5∧v5≤4:=⟨_,rfl,by omega⟩
   have hv5i:(ln:Int) % 5=(v5:Int):=by omega
   have hsk:s.size≤65000:=by omega
   have HP1:=zhi (HPP.out s.data.toList (by rw [hsn.out]; omega) HU.out)
   go_wp2_with fail
   rw [hv5i]
   go_loopw [7,9] (fun s2 v wr2=>∃ (j:Nat) (t2:ByteArray),j≤v5∧s2=.string t2∧v=.int .i64 (j:Int)∧t2.data.toList=List.replicate (v5 - j) 10++t.data.toList∧wr2=wr) (fun _ v _=>(intOf v).toNat)
   case atStart=>exact ⟨v5,t,Nat.le_refl _,rfl,rfl,by simp,rfl⟩
   case round =>
    obtain ⟨j,t2,hj,rfl,rfl,ht2,rfl⟩:=hrel
    have hz2:t2.size≤65004:=by
     have h1:t2.data.toList.length=t2.size:=by simp
     have h2:t.data.toList.length=t.size:=by simp
     rw [ht2,List.length_append,List.length_replicate] at h1
     omega
    have Ht2:=zhi ht2
    clear ht2
    by_cases hj0:0<j
    ·obtain ⟨j,rfl⟩:∃ i,j=i+1:=⟨j - 1,by omega⟩
     have HN:Hid ((⟨#[10]⟩++t2:ByteArray).data.toList=List.replicate (v5 - j) 10++t.data.toList):=zhi (by
      have e:(⟨#[10]⟩++t2:ByteArray).data.toList=10 :: t2.data.toList:=by simp
      rw [e,Ht2.out,show v5 - j=(v5 - (j+1))+1 by omega,List.replicate_succ,List.cons_append])
     go_wp2_with fail
     exact ⟨⟨j,_,by omega,rfl,rfl,HN.out,trivial⟩,by simp [intOf]⟩
    ·obtain rfl:j=0:=by omega
     have HP2:=zhi (HPP.out t2.data.toList (by have h1:t2.data.toList.length=t2.size:=(by simp); omega) (by rw [Ht2.out,zdi]; exact HUt.out))
     obtain ⟨F1,hp1,hF1⟩:=HP1.out
     obtain ⟨F2,hp2,hF2⟩:=HP2.out
     obtain ⟨hsf1,hsg1,hsm1⟩:=z4q hp1
     obtain ⟨hsf2,_,_⟩:=z4q hp2
     have hFF:=zhi (hF1.trans hF2.symm)
     have hfl:F2.length=F1.length:=by simpa using congrArg List.length hFF.out.symm
     have hp:=zhi (z9M 3 s (.ok (gl,F1)) wr (by omega) Her.out hp1)
     have HQ2:=zhi (fun W1 hW1=>z9M 3 t2 (.ok (gl,F2)) W1 (by omega) hW1 hp2)
     have HSF1:=zhi hsf1
     have HSF2:=zhi hsf2
     have Hfl:=zhi hfl
     clear hp1 hp2 hF1 hF2 hsf1 hsf2 hfl HP1 HP2 HPP HUt HU Ht2
     go_wp2_with fail
     refine hp.out.mono ?_
     intro e w8 hg8
     obtain ⟨D8,d8,gA,gc,fA,fc,rfl,hgs8,hfs8,hb8⟩:=z63 hg8
     have HGS8:=zhi hgs8
     have HFS8:=zhi hfs8
     have Hb8:=zhi (z09 Hb4.out hb8)
     obtain ⟨nn,hnn⟩:∃ nn,nn=gl.length:=⟨_,rfl⟩
     obtain ⟨ff,hff⟩:∃ ff,ff=F1.length:=⟨_,rfl⟩
     rw [← hnn] at hsg1 ⊢
     rw [← hff] at hsm1 ⊢
     have HNN:=zhi hnn
     have HFN:=zhi hff
     have hba8:=(Below.refl _ w8).alloc (Nat.le_refl _) (.cells #[.slice gA nn gc,.slice fA ff fc] 32)
     have HR8:=zhi (heap_alloc_new w8 (.cells #[.slice gA nn gc,.slice fA ff fc] 32))
     have HBA8:=zhi hba8
     have hq:=zhi (HQ2.out (w8.alloc (.cells #[.slice gA nn gc,.slice fA ff fc] 32)) ((Her.out.below hb8).below hba8))
     clear hp hg8 hgs8 hfs8 hb8 hba8 hnn hff HQ2 Her
     go_wp2_with fail
     refine hq.out.mono ?_
     intro e w9 hg9
     obtain ⟨D9,d9,gB,gc2,fB,fc2,rfl,hgs9,hfs9,hb9⟩:=z63 hg9
     rw [← HNN.out,Hfl.out,← HFN.out]
     have hba9:=(Below.refl _ w9).alloc (Nat.le_refl _) (.cells #[.slice gB nn gc2,.slice fB ff fc2] 32)
     have hr8:=(hba9.block _ (Nat.lt_of_lt_of_le (by simp) hb9.size)).trans ((hb9.block _ (by simp)).trans HR8.out)
     have hr9:=heap_alloc_new w9 (.cells #[.slice gB nn gc2,.slice fB ff fc2] 32)
     obtain ⟨c0,c1⟩:=cl2 hr8
     obtain ⟨e0,e1⟩:=cl2 hr9
     have hb89:=z09 (z09 HBA8.out hb9) hba9
     have hl9:=hba9.size
     have HG1:=HGS8.out.keep (G:=fun q=>q<w8.heap.size) z0C (fun q h=>h.2) (fun q h=>hb89.block q h.2)
     have HG2:=hgs9.keep (G:=fun q=>q<w9.heap.size) z0C (fun q h=>h.2) (fun q h=>hba9.block q h.2)
     have HF1:=HFS8.out.keep (G:=fun q=>q<w8.heap.size) (z15 _ _) (fun q h=>h.2) (fun q h=>hb89.block q h.2)
     have HF2:=hfs9.keep (G:=fun q=>q<w9.heap.size) (z15 _ _) (fun q h=>h.2) (fun q h=>hba9.block q h.2)
     have hlt8:∀ q,q<w8.heap.size→q<(w9.alloc (.cells #[.slice gB nn gc2,.slice fB ff fc2] 32)).heap.size:=fun q h=>Nat.lt_of_lt_of_le h hb89.size
     have hlt9:∀ q,q<w9.heap.size→q<(w9.alloc (.cells #[.slice gB nn gc2,.slice fB ff fc2] 32)).heap.size:=fun q h=>Nat.lt_of_lt_of_le h hba9.size
     have HEQ:=zhi (zcU nn ff gA gB fA fB gc gc2 fc fc2 (w9.alloc (.cells #[.slice gB nn gc2,.slice fB ff fc2] 32)) (fun W hW =>
      zaF W gl F1 F2 nn ff gA gB fA fB gc gc2 fc fc2 HNN.out.symm HFN.out.symm hFF.out (HG1.bel z0C hlt8 hW) (HG2.bel z0C hlt9 hW) (HF1.bel (z15 _ _) hlt8 hW) (HF2.bel (z15 _ _) hlt9 hW) (fun q h=>Nat.lt_of_lt_of_le (hlt8 q h) hW.size) (fun q h=>Nat.lt_of_lt_of_le (hlt9 q h) hW.size) hsg1 hsm1 HSF1.out HSF2.out))
     have Hb9:=zhi (z09 Hb8.out hb89)
     clear hq hg9 hgs9 hfs9 hb9 hba9 hr8 hr9 hb89 hl9 HGS8 HFS8 HBA8 HR8 Hb8 HNN HFN HG1 HG2 HF1 HF2 hlt8 hlt9
     go_wp2_with fail
     refine HEQ.out.mono ?_
     rintro e w10 ⟨rfl,hb10⟩
     have HbE:=zhi (z09 Hb9.out hb10)
     clear HEQ hb10 Hb9 c0 c1 e0 e1
     go_wp2_with fail
     go_ret
     exact ⟨rfl,HbE.out⟩
end Go.Proofs.YtgcjcclkialdgaaGreatDoor
