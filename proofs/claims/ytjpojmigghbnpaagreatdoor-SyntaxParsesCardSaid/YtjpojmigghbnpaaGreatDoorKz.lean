/-
  Kz: PyL. Walks and laws that the statement's proof is made of. No condition of its own.
-/
import Derived.Test.YtjpojmigghbnpaaGreatDoorKo
import Derived.Test.YtjpojmigghbnpaaGreatDoorKp
import Derived.Test.YtjpojmigghbnpaaGreatDoorKq
import Derived.Test.YtjpojmigghbnpaaGreatDoorKy
import Derived.Laws.IdiomStrings
namespace Go.Proofs.YtjpojmigghbnpaaGreatDoor
open Go.RowKit
abbrev AnsS:=Except (Nat × Nat) (Gls × List Fn)
def glS:AnsS→Gls
 | .ok p=>p.1
 | .error _=>[]
def flS:AnsS→List Fn
 | .ok p=>p.2
 | .error _=>[]
def lnS:AnsS→Nat
 | .ok _=>0
 | .error p=>p.1
def cdS:AnsS→Nat
 | .ok _=>0
 | .error p=>p.2
theorem z8M {α:Type} {k:Nat} {V:z3a α} {F:Nat→Prop} {w:World}:RowG k V F w [] none 0:=⟨Nat.le_refl _,fun i x h=>by simp at h⟩
theorem z5M {m:AnsS} {w w':World} {e:Ending} (h:z34 m w e w'):∃ D d gA gc fA fc,e=.returned (.tuple #[.agg #[.slice gA (glS m).length gc,.slice fA (flS m).length fc],.int .i64 ((lnS m:Nat):Int),.int .i64 ((cdS m:Nat):Int)]) ∧
  RowG 2 MGl (fun q=>w.heap.size≤q∧q<w'.heap.size) w' (glS m) gA gc∧RowG 4 (MFn D d) (fun q=>w.heap.size≤q∧q<w'.heap.size) w' (flS m) fA fc∧Below w.heap.size w w':=by
 match m,h with
 | .error (n,c),⟨h1,h2⟩=>exact ⟨0,0,none,0,none,0,h1,z8M,z8M,h2⟩
 | .ok (gl,fl),⟨D,d,gA,gc,fA,fc,h1,h2,h3,h4⟩=>exact ⟨D,d,gA,gc,fA,fc,h1,h2,h3,h4⟩
theorem zbE {d:Nat} {l:z09} {m:AnsS} (h:z41 d l=some m):(∀ f∈flS m,z5u f)∧(glS m).length≤1000000∧(flS m).length≤1000000:=by
 match m,h with
 | .error _,_=>exact ⟨fun f hf=>by simp [flS] at hf,by simp [glS],by simp [flS]⟩
 | .ok (G,F),h=>exact z82 h
theorem z60 {W a b:World} {g:Nat} (h:Below W.heap.size W a) (hg:a.grownBy b (some g)) (hW:W.heap.size≤g):Below W.heap.size W b :=
 h.trans (z0e hg (fun k hk=>by injection hk with hk; omega) h.size)
theorem z7J {a b:World} {g:Nat} (h:Errs a) (hg:a.grownBy b (some g)) (h1:1<g) (h2:2<g):Errs b :=
 h.grown hg (fun e=>absurd (show g=1 by injection e) (Nat.ne_of_gt h1)) (fun e=>absurd (show g=2 by injection e) (Nat.ne_of_gt h2))
set_option maxRecDepth 100000 in
theorem sp_far (A0:Option Addr) (m c0:Nat) (s:ByteArray) (w:World) (he:Errs w) (hs:500<s.size) (hs2:s.size≤maxLen) :
  Calls Tryz.prog 3 #[.slice A0 m c0,.string s] w fun e w'=>e=.returned (.bool true)∧Below w.heap.size w w':=by
 have ha:=zhi (za8 w he)
 unfold maxLen at hs2
 clear he
 go_enter Tryz.func3,Tryz.ntmps3
 go_wp2_with fail
 refine ha.out.mono ?_
 rintro e w1 ⟨rfl,hb1⟩
 have Hb1:=zhi hb1
 clear ha hb1
 go_wp2_with fail
 go_ret
 exact ⟨rfl,Hb1.out⟩
set_option maxRecDepth 100000 in
set_option maxHeartbeats 4000000 in
theorem sp_near (A0:Option Addr) (codes:List Nat) (m c0:Nat) (s:ByteArray) (w:World) (he:Errs w) (hm:codes.length=m) (hmc:m≤c0) (hr:Rd w A0 (codes.map bv)) (hcs:∀ x∈codes,x<256) (hs:s.size≤500) :
  Calls Tryz.prog 3 #[.slice A0 m c0,.string s] w fun e w'=>e=.returned (.bool true)∧Below w.heap.size w w':=by
 have ha:=zhi (za8 w he)
 have He:=zhi he
 have Hm:=zhi hm
 have Hr:=zhi hr
 have Hcs:=zhi hcs
 have het:=he.lt
 clear he hm hr hcs
 go_enter Tryz.func3,Tryz.ntmps3
 go_wp2_with fail
 refine ha.out.mono ?_
 rintro e w1 ⟨rfl,hb1⟩
 have hn:=zhi (zdR A0 codes m c0 400 w1 Hm.out hmc (Hr.out.below hb1) (by decide))
 have He1:=zhi (He.out.below hb1)
 have Hb1:=zhi hb1
 clear ha hb1 Hr Hm
 go_wp2_with fail
 refine hn.out.mono ?_
 rintro e w2 ⟨g,cs,rfl,hg,hlen,rfl,hc2,hb2⟩
 have Hcl:Hid (∀ x∈codes.take 400,x<256):=zhi (fun x hx=>Hcs.out x (List.mem_of_mem_take hx))
 generalize codes.take 400=cs at *
 have hgw:w.heap.size≤g:=Nat.le_trans Hb1.out.size hg
 have hx:=zhi (z91 g cs w2 ⟨0,hc2⟩ (by omega) Hcl.out)
 have He2:=zhi (He1.out.below hb2)
 have Hb2:=zhi (z0b Hb1.out hb2)
 clear hn hb2 hc2 Hcs He1 Hb1
 go_wp2_with fail
 refine hx.out.mono ?_
 rintro e w3 ⟨t,rfl,htz,hc3,hg3⟩
 have ho:=zhi (zba g cs w3 hc3 (by omega) Hcl.out (zbL g cs (by omega) Hcl.out))
 have He3:=zhi (z7J He2.out hg3 (by omega) (by omega))
 have Hb3:=zhi (z60 Hb2.out hg3 hgw)
 clear hx hc3 hg3 He2 Hb2
 go_wp2_with fail
 refine ho.out.mono ?_
 rintro e w4 ⟨od,rfl,hoz,hc4,hg4⟩
 have ho2:=zhi (zba g cs w4 hc4 (by omega) Hcl.out (zbL g cs (by omega) Hcl.out))
 have He4:=zhi (z7J He3.out hg4 (by omega) (by omega))
 have Hb4:=zhi (z60 Hb3.out hg4 hgw)
 clear ho hc4 hg4 He3 Hb3
 go_wp2_with fail
 refine ho2.out.mono ?_
 rintro e w6 ⟨od2,rfl,hoz2,hc6,hg6⟩
 have He6:=zhi (z7J He4.out hg6 (by omega) (by omega))
 have Hb6:=zhi (z60 Hb4.out hg6 hgw)
 clear ho2 hc6 hg6 He4 Hb4
 go_upto_region 5 with fail
 have hb7:=(Below.refl _ w6).alloc (Nat.le_refl _) (.cells #[.string s,.string t,.string od,.string od2,.string (⟨#[102,117,110,99,32,109,97,105,110,40,41,32,123]⟩++s++⟨#[125]⟩),.string (⟨#[103,108,111,98,97,108,32,97,91]⟩++s++⟨#[93,59]⟩)] 9)
 have hrow:(w6.alloc (.cells #[.string s,.string t,.string od,.string od2,.string (⟨#[102,117,110,99,32,109,97,105,110,40,41,32,123]⟩++s++⟨#[125]⟩),.string (⟨#[103,108,111,98,97,108,32,97,91]⟩++s++⟨#[93,59]⟩)] 9)).heap[w6.heap.size]?=some (.cells #[.string s,.string t,.string od,.string od2,.string (⟨#[102,117,110,99,32,109,97,105,110,40,41,32,123]⟩++s++⟨#[125]⟩),.string (⟨#[103,108,111,98,97,108,32,97,91]⟩++s++⟨#[93,59]⟩)] 9 (0,0)):=heap_alloc_new w6 _
 have Hrow:Hid (∀ k,k<6→∃ x:ByteArray,x.size≤140000∧(w6.alloc (.cells #[.string s,.string t,.string od,.string od2,.string (⟨#[102,117,110,99,32,109,97,105,110,40,41,32,123]⟩++s++⟨#[125]⟩),.string (⟨#[103,108,111,98,97,108,32,97,91]⟩++s++⟨#[93,59]⟩)] 9)).cell? ⟨w6.heap.size,k,none⟩=some (.string x)):=zhi (fun k hk=>by
  have hc:k=0∨k=1∨k=2∨k=3∨k=4∨k=5:=by omega
  rcases hc with rfl | rfl | rfl | rfl | rfl | rfl
  ·exact ⟨s,by omega,by rw [cell_of_row _ _ 0 _ _ _ hrow]; rfl⟩
  ·exact ⟨t,by omega,by rw [cell_of_row _ _ 1 _ _ _ hrow]; rfl⟩
  ·exact ⟨od,by omega,by rw [cell_of_row _ _ 2 _ _ _ hrow]; rfl⟩
  ·exact ⟨od2,by omega,by rw [cell_of_row _ _ 3 _ _ _ hrow]; rfl⟩
  ·exact ⟨⟨#[102,117,110,99,32,109,97,105,110,40,41,32,123]⟩++s++⟨#[125]⟩,by rw [ByteArray.size_append,ByteArray.size_append]; show 13+s.size+1≤140000; omega,by rw [cell_of_row _ _ 4 _ _ _ hrow]; rfl⟩
  ·exact ⟨⟨#[103,108,111,98,97,108,32,97,91]⟩++s++⟨#[93,59]⟩,by rw [ByteArray.size_append,ByteArray.size_append]; show 9+s.size+2≤140000; omega,by rw [cell_of_row _ _ 5 _ _ _ hrow]; rfl⟩)
 have He7:=zhi (He6.out.below hb7)
 have Hb7:=zhi (z0b Hb6.out hb7)
 obtain ⟨q,hq⟩:∃ q,q=w6.heap.size:=⟨_,rfl⟩
 rw [← hq] at Hrow ⊢
 clear hb7 hrow He6 Hb6 hq htz hoz hoz2
 generalize w6.alloc (.cells #[.string s,.string t,.string od,.string od2,.string (⟨#[102,117,110,99,32,109,97,105,110,40,41,32,123]⟩++s++⟨#[125]⟩),.string (⟨#[103,108,111,98,97,108,32,97,91]⟩++s++⟨#[93,59]⟩)] 9)=w7 at *
 go_loopw [41] (fun v wr=>∃ k:Nat,k≤6∧v=.int .i64 (k:Int)∧Below w7.heap.size w7 wr) (fun v _=>6 - (intOf v).toNat)
 case atStart=>exact ⟨0,by omega,rfl,Below.refl _ _⟩
 case round =>
  obtain ⟨k,hk,rfl,hb⟩:=hrel
  have Hb:=zhi hb
  by_cases hlt:k<6
  ·obtain ⟨x,hxz,hx⟩:=Hrow.out k hlt
   have hx2:=hold hb hx
   have HeR:=zhi (He7.out.below hb)
   obtain ⟨d,m,hm1,hm2⟩:=z81 x.data.toList
   have hp:=zhi (zdU d x m wr (by omega) HeR.out hm1)
   have HSM:=zhi (zbE hm1)
   have HM2:=zhi hm2
   clear hb hx hm1 hm2
   go_wp2_with fail
   refine hp.out.mono ?_
   intro e w8 hg8
   obtain ⟨D8,d8,gA,gc,fA,fc,rfl,hgs8,hfs8,hb8⟩:=z5M hg8
   obtain ⟨hsf,hsg,hsm⟩:=HSM.out
   have HSF:=zhi hsf
   have HGS8:=zhi hgs8
   have HFS8:=zhi hfs8
   have Hb8:=zhi (z0b Hb.out hb8)
   have hba8:=(Below.refl _ w8).alloc (Nat.le_refl _) (.cells #[.slice gA (glS m).length gc,.slice fA (flS m).length fc] 31)
   have HR8:=zhi (heap_alloc_new w8 (.cells #[.slice gA (glS m).length gc,.slice fA (flS m).length fc] 31))
   have HBA8:=zhi hba8
   have hp2:=zhi (zdV d x m (w8.alloc (.cells #[.slice gA (glS m).length gc,.slice fA (flS m).length fc] 31)) (by omega) HM2.out)
   clear hp hg8 hgs8 hfs8 hb8 hba8 HeR HSM hsf
   obtain ⟨n,hn⟩:∃ n,n=(glS m).length:=⟨_,rfl⟩
   obtain ⟨f,hf⟩:∃ f,f=(flS m).length:=⟨_,rfl⟩
   rw [← hn] at hp2 HR8 HBA8 hsg ⊢
   rw [← hf] at hp2 HR8 HBA8 hsm ⊢
   have HNN:=zhi hn
   have HFN:=zhi hf
   clear hn hf
   go_wp2_with fail
   refine hp2.out.mono ?_
   intro e w9 hg9
   obtain ⟨D9,d9,gB,gc2,fB,fc2,rfl,hgs9,hfs9,hb9⟩:=z5M hg9
   rw [← HNN.out,← HFN.out]
   have hba9:=(Below.refl _ w9).alloc (Nat.le_refl _) (.cells #[.slice gB n gc2,.slice fB f fc2] 31)
   have hr8:=(hba9.block _ (Nat.lt_of_lt_of_le (by simp) hb9.size)).trans ((hb9.block _ (by simp)).trans HR8.out)
   have hr9:=heap_alloc_new w9 (.cells #[.slice gB n gc2,.slice fB f fc2] 31)
   obtain ⟨c0,c1⟩:=cl2 hr8
   obtain ⟨e0,e1⟩:=cl2 hr9
   have hb89:=z0b (z0b HBA8.out hb9) hba9
   have hl9:=hba9.size
   have HEQ:=zhi (zas (F:=fun q=>q<w8.heap.size) (G:=fun q=>q<w9.heap.size) (w9.alloc (.cells #[.slice gB n gc2,.slice fB f fc2] 31)) (glS m) (flS m) n f gA gB fA fB gc gc2 fc fc2 HNN.out.symm HFN.out.symm (HGS8.out.keep z0A (fun q h=>h.2) (fun q h=>hb89.block q h.2)) (hgs9.keep z0A (fun q h=>h.2) (fun q h=>hba9.block q h.2)) (HFS8.out.keep (z1b _ _) (fun q h=>h.2) (fun q h=>hb89.block q h.2)) (hfs9.keep (z1b _ _) (fun q h=>h.2) (fun q h=>hba9.block q h.2)) (fun q h=>Nat.lt_of_lt_of_le h hb89.size) (fun q h=>Nat.lt_of_lt_of_le h hba9.size) hsg hsm HSF.out)
   have Hb9:=zhi (z0b Hb8.out hb89)
   clear hp2 hg9 hgs9 hfs9 hb9 hba9 hr8 hr9 hb89 hl9 HGS8 HFS8 HBA8 HR8 Hb8 HNN HFN
   generalize lnS m=LN at *
   generalize cdS m=CD at *
   go_wp2_with fail
   refine HEQ.out.mono ?_
   rintro e w10 ⟨rfl,hb10⟩
   have Hb10:=zhi (z0b Hb9.out hb10)
   clear HEQ hb10 Hb9 c0 c1 e0 e1
   go_wp2_with fail
   exact ⟨⟨k+1,by omega,by go_num,Hb10.out⟩,by simp [intOf]; omega⟩
  ·have hk2:k=6:=by omega
   subst hk2
   have Hbe:=zhi (z0b Hb7.out hb)
   clear hb
   go_wp2_with fail
   go_ret
   exact ⟨rfl,Hbe.out⟩
end Go.Proofs.YtjpojmigghbnpaaGreatDoor
