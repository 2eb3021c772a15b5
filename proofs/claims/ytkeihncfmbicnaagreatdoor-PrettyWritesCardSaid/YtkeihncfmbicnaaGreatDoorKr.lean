/-
  Kr: Expr, Expr2, Expr3, Expr4, Expr5, Stmt, Block, Format. Walks and laws that the statement's proof is made of. No condition of its own.
-/
import Derived.Test.YtkeihncfmbicnaaGreatDoorKb
import Derived.Outline
import Derived.Deep.QuietTactic
import Derived.BigQuiet
namespace Go.Proofs.YtkeihncfmbicnaaGreatDoor
open Go.RowKit
theorem ExV.low {F:Nat→Prop} {w w':World} (hb:Below w.heap.size w w'):∀ (d:Nat) (x:Ex) (v:Value),ExV F w d x v→ExV (fun k=>k<w'.heap.size) w' d x v
 | 0,_,_,h=>h
 | d+1,.mk k o a l s xs,v,⟨A,c,hv,hc,h⟩=>⟨A,c,hv,hc,fun i x hi=>by
   obtain ⟨g,off,c0,c1,c2,c3,c4,c5,hA,hF,h0,h1,h2,h3,h4,h5,hx⟩:=h i x hi
   have hlt:=World.block_lt_of_cell? _ _ h0
   exact ⟨g,off,c0,c1,c2,c3,c4,c5,hA,Nat.lt_of_lt_of_le hlt hb.size,hold hb h0,hold hb h1,hold hb h2,hold hb h3,hold hb h4,hold hb h5,ExV.low hb d x _ hx⟩⟩
set_option maxRecDepth 10000 in
set_option maxHeartbeats 2000000 in
theorem zej (o:Int) (w:World) (h0:0≤o) (h1:o≤11):Calls Tryz.prog 31 #[.int .i64 o] w (z0L (z0U o) w):=by
 have h:o=0∨o=1∨o=2∨o=3∨o=4∨o=5∨o=6∨o=7∨o=8∨o=9∨o=10∨o=11:=by omega
 clear h0 h1
 rcases h with rfl | rfl | rfl | rfl | rfl | rfl | rfl | rfl | rfl | rfl | rfl | rfl
 all_goals
  go_enter Tryz.func31,Tryz.ntmps31
  go_wp2_with fail
  go_ret
  exact z0x (by decide) ((Below.refl _ w).alloc (Nat.le_refl _) _)
theorem z4r (k:Int) (c1 c2 c3 c4 c5:Value) (w:World):Calls Tryz.prog 55 #[.agg #[.int .i64 k,c1,c2,c3,c4,c5]] w (RetG (z0l k) w):=by
 have hb:=(Below.refl _ w).alloc (Nat.le_refl _) (.cells #[.int .i64 k,c1,c2,c3,c4,c5] 37)
 have H:=zhi hb
 clear hb
 have hk:k=5∨k=6∨k=7∨k=8∨(k≠5∧k≠6∧k≠7∧k≠8):=by omega
 rcases hk with rfl | rfl | rfl | rfl | ⟨h5,h6,h7,h8⟩
 ·go_enter Tryz.func55,Tryz.ntmps55
  go_wp2_with fail
  go_ret
  exact ⟨rfl,H.out⟩
 ·go_enter Tryz.func55,Tryz.ntmps55
  go_wp2_with fail
  go_ret
  exact ⟨rfl,H.out⟩
 ·go_enter Tryz.func55,Tryz.ntmps55
  go_wp2_with fail
  go_ret
  exact ⟨rfl,H.out⟩
 ·go_enter Tryz.func55,Tryz.ntmps55
  go_wp2_with fail
  go_ret
  exact ⟨rfl,H.out⟩
 ·have e:Hid (z0l k=false):=zhi (by simp [z0l,h5,h6,h7,h8])
  have e5:(k == 5)=false:=by simpa using h5
  have e6:(k == 6)=false:=by simpa using h6
  have e7:(k == 7)=false:=by simpa using h7
  have e8:(k == 8)=false:=by simpa using h8
  clear h5 h6 h7 h8
  go_enter Tryz.func55,Tryz.ntmps55
  go_wp2_with fail
  go_ret
  exact ⟨by rw [e.out]; rfl,H.out⟩
def z63 (d:Nat):Prop:=∀ (F:Nat→Prop) (x:Ex) (v:Value) (w:World),ExV F w d x v→ShE d x→(fmtE d x).length≤1099511627776→Calls Tryz.prog 12 #[v] w (z0L (fmtE d x) w)
def zeC (d:Nat):Prop:=∀ (F:Nat→Prop) (x:Ex) (v:Value) (w:World),ExV F w d x v→ShE d x→(opd d x).length≤1099511627776→Calls Tryz.prog 32 #[v] w (z0L (opd d x) w)
def zez (d:Nat):Prop:=∀ (F:Nat→Prop) (xs:List Ex) (A:Option Addr) (c:Nat) (w:World),RowE F w d xs A c→(∀ x∈xs,ShE d x)→xs.length≤1000→(lst d xs).length≤1099511627776→Calls Tryz.prog 33 #[.slice A xs.length c] w (z0L (lst d xs) w)
set_option maxRecDepth 10000 in
theorem z9x (d:Nat) (ih:z63 d):zeC d:=by
 intro F x v w hx hs hl
 cases d with
 | zero=>exact hx.elim
 | succ d =>
 match x,hx with
 | .mk k o a l s xs,⟨A,c,hv,hr⟩ =>
  subst hv
  have h1:∀ w',Below w.heap.size w w'→Calls Tryz.prog 12 #[.agg #[.int .i64 k,.int .i64 o,.int .i64 a,.int .i64 l,.string s,.slice A xs.length c]] w' (z0L (fmtE (d+1) (.mk k o a l s xs)) w'):=fun w' hb=>ih _ _ _ w' (ExV.low hb (d+1) _ _ ⟨A,c,rfl,hr⟩) hs (by
   refine Nat.le_trans ?_ hl
   unfold opd
   split
   ·simp; omega
   ·exact Nat.le_refl _)
  have hl2:(fmtE (d+1) (.mk k o a l s xs)).length≤1099511627776:=by
   refine Nat.le_trans ?_ hl
   unfold opd
   split
   ·simp; omega
   ·exact Nat.le_refl _
  have H1:=zhi h1
  have hb0:=(Below.refl _ w).alloc (Nat.le_refl _) (.cells #[.int .i64 k,.int .i64 o,.int .i64 a,.int .i64 l,.string s,.slice A xs.length c] 37)
  have Hb0:=zhi hb0
  generalize hL:fmtE (d+1) (.mk k o a l s xs)=L at *
  have HO:Hid (opd (d+1) (.mk k o a l s xs)=if z0l k then 40 :: (L++[41]) else L):=zhi (by rw [opd,hL]; rfl)
  clear h1 hb0 hr hs hl ih hL
  generalize opd (d+1) (.mk k o a l s xs)=O at *
  by_cases hc:z0l k=true
  ·have HO2:Hid (O=40 :: (L++[41])):=zhi (by rw [HO.out,if_pos hc])
   clear HO
   go_enter Tryz.func32,Tryz.ntmps32
   go_wp2_with fail
   refine (z4r _ _ _ _ _ _ _).mono ?_
   rintro e w1 ⟨rfl,hb1⟩
   have hd:∀ j v,(#[.int .i64 k,.int .i64 o,.int .i64 a,.int .i64 l,.string s,.slice A xs.length c]:Array Value)[j]?=some v→w1.cell? ⟨w.heap.size,j,none⟩=some v:=fun j v hv=>hold hb1 (by rw [cell_of_row _ _ _ _ _ _ (heap_alloc_new w _)]; exact hv)
   have d0:=hd 0 _ rfl
   have d1:=hd 1 _ rfl
   have d2:=hd 2 _ rfl
   have d3:=hd 3 _ rfl
   have d4:=hd 4 _ rfl
   have d5:=hd 5 _ rfl
   have hb2:=z02 Hb0.out hb1
   have Hb2:=zhi hb2
   clear hb1 hb2 hd
   go_wp2_with fail
   refine (H1.out w1 Hb2.out).mono ?_
   rintro e w2 ⟨t,rfl,ht,hb3⟩
   have Hb3:=zhi (z02 Hb2.out hb3)
   have hsz:t.size≤1099511627776:=by rw [z0c ht.out]; exact hl2
   clear hb3 hl2
   go_wp2_with fail
   go_ret
   exact z0x (by rw [HO2.out,← ht.out]; simp) Hb3.out
  ·have hc:z0l k=false:=by simpa using hc
   have HO2:Hid (O=L):=zhi (by rw [HO.out,hc]; rfl)
   clear HO
   go_enter Tryz.func32,Tryz.ntmps32
   go_wp2_with fail
   refine (z4r _ _ _ _ _ _ _).mono ?_
   rintro e w1 ⟨rfl,hb1⟩
   have hd:∀ j v,(#[.int .i64 k,.int .i64 o,.int .i64 a,.int .i64 l,.string s,.slice A xs.length c]:Array Value)[j]?=some v→w1.cell? ⟨w.heap.size,j,none⟩=some v:=fun j v hv=>hold hb1 (by rw [cell_of_row _ _ _ _ _ _ (heap_alloc_new w _)]; exact hv)
   have d0:=hd 0 _ rfl
   have d1:=hd 1 _ rfl
   have d2:=hd 2 _ rfl
   have d3:=hd 3 _ rfl
   have d4:=hd 4 _ rfl
   have d5:=hd 5 _ rfl
   have hb2:=z02 Hb0.out hb1
   have Hb2:=zhi hb2
   clear hb1 hb2 hd
   go_wp2_with fail
   refine (H1.out w1 Hb2.out).mono ?_
   rintro e w2 ⟨t,rfl,ht,hb3⟩
   have Hb3:=zhi (z02 Hb2.out hb3)
   clear hb3 hl2
   go_wp2_with fail
   go_ret
   exact z0x (by rw [HO2.out,← ht.out]) Hb3.out
end Go.Proofs.YtkeihncfmbicnaaGreatDoor
namespace Go.Proofs.YtkeihncfmbicnaaGreatDoor
open Go.RowKit
def jl (l:List z04):z04:=([44,32]:z04).intercalate l
theorem z22 (sep x y:z04) (r:List z04):sep.intercalate (x :: y :: r)=x++sep++sep.intercalate (y :: r):=by simp [List.intercalate,List.intersperse]
theorem z4y (sep:z04):∀ (l:List z04) (a:z04),sep.intercalate (l++[a])=if l=[] then a else sep.intercalate l++sep++a
 | [],a=>by simp [List.intercalate]
 | [x],a=>by simp [List.intercalate,List.intersperse]
 | x :: y :: r,a=>by
  have ih:sep.intercalate (y :: (r++[a]))=sep.intercalate (y :: r)++sep++a:=by
   have:=z4y sep (y :: r) a
   rwa [if_neg (by simp)] at this
  rw [if_neg (by simp)]
  show sep.intercalate (x :: y :: (r++[a]))=_
  rw [z22,z22,ih]
  simp
theorem z98 (l:List z04) (a:z04):jl (l++[a])=if l=[] then a else jl l++[44,32]++a:=z4y _ l a
theorem zeH (l:List z04) (a:z04):(jl l).length≤(jl (l++[a])).length:=by
 rw [z98]
 split
 ·rename_i h; subst h; simp [jl,List.intercalate]
 ·simp
theorem z6k (l:List z04):∀ k,(jl (l.take k)).length≤(jl l).length:=by
 have key:∀ n k,k+n=l.length→(jl (l.take k)).length≤(jl l).length:=by
  intro n
  induction n with
  | zero=>intro k hk; rw [List.take_of_length_le (by omega)]; exact Nat.le_refl _
  | succ n ih =>
   intro k hk
   have h1:=ih (k+1) (by omega)
   rw [List.take_succ_eq_append_getElem (by omega)] at h1
   exact Nat.le_trans (zeH _ _) h1
 intro k
 by_cases hk:k≤l.length
 ·exact key (l.length - k) k (by omega)
 ·rw [List.take_of_length_le (by omega)]; exact Nat.le_refl _
theorem z96 (l:List z04) (k:Nat) (a:z04) (h:l[k]?=some a):a.length≤(jl l).length∧jl (l.take (k+1))=if k=0 then a else jl (l.take k)++[44,32]++a:=by
 have hlt:k<l.length:=by
  rcases Nat.lt_or_ge k l.length with h' | h'
  ·exact h'
  ·rw [List.getElem?_eq_none h'] at h; cases h
 rw [List.getElem?_eq_getElem hlt] at h
 injection h with h
 have e:jl (l.take (k+1))=if k=0 then a else jl (l.take k)++[44,32]++a:=by
  rw [List.take_succ_eq_append_getElem hlt,h,z98]
  by_cases h0:k=0
  ·subst h0; simp
  ·rw [if_neg h0,if_neg (by intro hh; have:=congrArg List.length hh; rw [List.length_take,List.length_nil] at this; omega)]
 refine ⟨?_,e⟩
 have h2:=z6k l (k+1)
 rw [e] at h2
 split at h2
 ·exact h2
 ·simp at h2; omega
def zcd (w0:World) (l:List z04) (s i:Value) (wr:World):Prop :=
 ∃ (k:Nat) (t:ByteArray),k≤l.length∧s=.string t∧i=.int .i64 (k:Int)∧t.data.toList=40 :: jl (l.take k)∧Below w0.heap.size w0 wr
set_option maxRecDepth 10000 in
set_option maxHeartbeats 1000000 in
theorem zdP (d:Nat) (ih:z63 d):zez d:=by
 intro F xs A c w hr hs hn hl
 obtain ⟨hc,hrow⟩:=hr
 have hl2:(jl (xs.map (fmtE d))).length≤1099511627776:=by
  refine Nat.le_trans ?_ hl
  unfold lst jl
  simp
  omega
 have hlL:Hid (lst d xs=40 :: (jl (xs.map (fmtE d))++[41])):=zhi rfl
 have Ih:=zhi ih
 have Hrow:=zhi hrow
 have Hs:=zhi hs
 clear hrow hs ih hl
 generalize lst d xs=L at *
 obtain ⟨n,hnn⟩:∃ n,n=xs.length:=⟨_,rfl⟩
 have Hn:=zhi hnn
 have hn2:n≤1000:=by omega
 have hcn:n≤c:=by omega
 rw [← hnn]
 clear hnn hn hc
 go_enter Tryz.func33,Tryz.ntmps33
 go_wp2_with fail
 go_loopw [3,4] (fun s i wr=>zcd w (xs.map (fmtE d)) s i wr) (fun _ i _=>n - (intOf i).toNat)
 case atStart=>exact ⟨0,_,Nat.zero_le _,rfl,rfl,rfl,Below.refl _ _⟩
 case round =>
  obtain ⟨k,t,hk,rfl,rfl,ht,hb⟩:=hrel
  have Ht:=zhi ht
  have Hb:=zhi hb
  have hsz:=hb.size
  have hkn:k≤n:=by rw [Hn.out]; simpa using hk
  have htz:t.size≤1099511627777:=by
   rw [z0c ht]
   have:=z6k (xs.map (fmtE d)) k
   simp
   omega
  clear ht hb hk
  by_cases hlt:k<n
  ·obtain ⟨x,hx⟩:∃ x,xs[k]?=some x:=⟨xs[k]'(by rw [← Hn.out]; exact hlt),List.getElem?_eq_getElem _⟩
   obtain ⟨g,off,c0,c1,c2,c3,c4,c5,rfl,_,e0,e1,e2,e3,e4,e5,hxv⟩:=Hrow.out k x hx
   have hm:(xs.map (fmtE d))[k]?=some (fmtE d x):=by simp [hx]
   obtain ⟨hg1,hg2⟩:=z96 _ _ _ hm
   have hcall:=Ih.out _ x _ wr (ExV.low Hb.out d x _ hxv) (Hs.out x (List.mem_of_getElem? hx)) (Nat.le_trans hg1 hl2)
   have Hcall:=zhi hcall
   have hfl:=Nat.le_trans hg1 hl2
   have Hg2:=zhi hg2
   have d0:=hold Hb.out e0
   have d1:=hold Hb.out e1
   have d2:=hold Hb.out e2
   have d3:=hold Hb.out e3
   have d4:=hold Hb.out e4
   have d5:=hold Hb.out e5
   clear e0 e1 e2 e3 e4 e5 hxv hm hg1 hg2 hcall hx
   by_cases h0:k=0
   ·have Hg3:Hid (jl ((xs.map (fmtE d)).take (k+1))=fmtE d x):=zhi (by rw [Hg2.out,if_pos h0])
    have Ht3:Hid (t.data.toList=[40]):=zhi (by rw [Ht.out,h0]; rfl)
    have hk0:¬ 0<k:=by omega
    clear h0 Hg2 Ht
    go_wp2_with fail
    refine Hcall.out.mono ?_
    rintro e w1 ⟨u,rfl,hu,hb1⟩
    have Hb1:=zhi (z02 Hb.out hb1)
    have husz:u.size≤1099511627776:=by rw [z0c hu.out]; exact hfl
    clear hb1 Hcall
    go_wp2_with fail
    exact ⟨⟨k+1,_,by simp; rw [← Hn.out]; omega,rfl,by go_num,by rw [Hg3.out,← hu.out]; simp [Ht3.out],Hb1.out⟩,by simp [intOf]; omega⟩
   ·have Hg3:Hid (jl ((xs.map (fmtE d)).take (k+1))=jl ((xs.map (fmtE d)).take k)++[44,32]++fmtE d x):=zhi (by rw [Hg2.out,if_neg h0])
    have hk0:0<k:=by omega
    clear h0 Hg2
    go_wp2_with fail
    refine Hcall.out.mono ?_
    rintro e w1 ⟨u,rfl,hu,hb1⟩
    have Hb1:=zhi (z02 Hb.out hb1)
    have husz:u.size≤1099511627776:=by rw [z0c hu.out]; exact hfl
    clear hb1 Hcall
    go_wp2_with fail
    exact ⟨⟨k+1,_,by simp; rw [← Hn.out]; omega,rfl,by go_num,by rw [Hg3.out,← hu.out]; simp [Ht.out],Hb1.out⟩,by simp [intOf]; omega⟩
  ·obtain rfl:k=n:=by omega
   have HtE:Hid (t.data.toList=40 :: jl (xs.map (fmtE d))):=zhi (by rw [Ht.out,List.take_of_length_le (by simp; rw [← Hn.out]; exact Nat.le_refl _)])
   clear Ht
   go_wp2_with fail
   go_ret
   exact z0x (by rw [hlL.out]; simp [HtE.out]) Hb.out
end Go.Proofs.YtkeihncfmbicnaaGreatDoor
namespace Go.Proofs.YtkeihncfmbicnaaGreatDoor
open Go.RowKit
theorem z2k (n:Nat) (z:Int) (w:World) (hz:z=(n:Int)) (hn:n<9223372036854775808):Calls Tryz.prog 14 #[.int .i64 z] w (z0L (numL n) w):=by
 subst hz
 exact zaY n w hn
def z1g (f:FuncId) (args:Array Value) (l:z04) (W:World):Prop:=∀ w',Below W.heap.size W w'→Calls Tryz.prog f args w' (z0L l w')
theorem z1g.next {f:FuncId} {args:Array Value} {l:z04} {w W:World} (h:z1g f args l w) (hb:Below w.heap.size w W):z1g f args l W:=fun w' h'=>h w' (z02 hb h')
theorem z1g.at_ {f:FuncId} {args:Array Value} {l:z04} {w W:World} (h:z1g f args l w) (hb:Below w.heap.size w W):Calls Tryz.prog f args W (z0L l W):=h W hb
theorem z0f {n m:Nat} (h:n≤m) (hm:m≤9223372036854775807):(9223372036854775807<n)=False:=by simp; omega
set_option maxRecDepth 10000 in
set_option maxHeartbeats 4000000 in
theorem z8y (o a l:Int) (s:ByteArray) (g off c:Nat) (c00 c01 c02 c03 c04 c05:Value) (w:World) (L:z04) (hs:s.size≤1000) (hL:L.length≤1099511627776) (e00:w.cell? ⟨g,off,none⟩=some c00) (e01:w.cell? ⟨g,off+1,none⟩=some c01) (e02:w.cell? ⟨g,off+2,none⟩=some c02) (e03:w.cell? ⟨g,off+3,none⟩=some c03) (e04:w.cell? ⟨g,off+4,none⟩=some c04) (e05:w.cell? ⟨g,off+5,none⟩=some c05) (hG0:z1g 12 #[.agg #[c00,c01,c02,c03,c04,c05]] L w) :
  Calls Tryz.prog 12 #[.agg #[.int .i64 4,.int .i64 o,.int .i64 a,.int .i64 l,.string s,.slice (some ⟨g,off,none⟩) 1 c]] w (z0L (s.data.toList++91 :: (L++[93])) w):=by
 have hb0:=(Below.refl _ w).alloc (Nat.le_refl _) (.cells #[.int .i64 4,.int .i64 o,.int .i64 a,.int .i64 l,.string s,.slice (some ⟨g,off,none⟩) 1 c] 37)
 have Hb0:=zhi hb0
 have HG0:=zhi (hG0.next hb0)
 have d00:=hold hb0 e00
 have d01:=hold hb0 e01
 have d02:=hold hb0 e02
 have d03:=hold hb0 e03
 have d04:=hold hb0 e04
 have d05:=hold hb0 e05
 have f4:(w.alloc (.cells #[.int .i64 4,.int .i64 o,.int .i64 a,.int .i64 l,.string s,.slice (some ⟨g,off,none⟩) 1 c] 37)).cell? ⟨w.heap.size,4,none⟩=some (.string s):=by rw [cell_of_row _ _ _ _ _ _ (heap_alloc_new w _)]; rfl
 have f5:(w.alloc (.cells #[.int .i64 4,.int .i64 o,.int .i64 a,.int .i64 l,.string s,.slice (some ⟨g,off,none⟩) 1 c] 37)).cell? ⟨w.heap.size,5,none⟩=some (.slice (some ⟨g,off,none⟩) 1 c):=by rw [cell_of_row _ _ _ _ _ _ (heap_alloc_new w _)]; rfl
 have hq0:=z0f (n:=s.size+1) (m:=1001) (by omega) (by omega)
 clear hb0 hG0 e00 e01 e02 e03 e04 e05
 go_enter Tryz.func12,Tryz.ntmps12
 go_wp2_with fail
 generalize w.alloc (.cells #[.int .i64 4,.int .i64 o,.int .i64 a,.int .i64 l,.string s,.slice (some ⟨g,off,none⟩) 1 c] 37)=W at *
 have hS0:W.drew.cell? ⟨w.heap.size,4,none⟩=some (.string s)∧W.drew.cell? ⟨w.heap.size,5,none⟩=some (.slice (some ⟨g,off,none⟩) 1 c)∧W.drew.cell? ⟨g,off,none⟩=some (c00)∧W.drew.cell? ⟨g,off+1,none⟩=some (c01)∧W.drew.cell? ⟨g,off+2,none⟩=some (c02)∧W.drew.cell? ⟨g,off+3,none⟩=some (c03)∧W.drew.cell? ⟨g,off+4,none⟩=some (c04)∧W.drew.cell? ⟨g,off+5,none⟩=some (c05)∧Below W.heap.size W W.drew:=⟨f4,f5,d00,d01,d02,d03,d04,d05,(Below.refl _ W).drew⟩
 go_region_held3 (fun w'=>w'.cell? ⟨w.heap.size,4,none⟩=some (.string s)∧w'.cell? ⟨w.heap.size,5,none⟩=some (.slice (some ⟨g,off,none⟩) 1 c)∧w'.cell? ⟨g,off,none⟩=some (c00)∧w'.cell? ⟨g,off+1,none⟩=some (c01)∧w'.cell? ⟨g,off+2,none⟩=some (c02)∧w'.cell? ⟨g,off+3,none⟩=some (c03)∧w'.cell? ⟨g,off+4,none⟩=some (c04)∧w'.cell? ⟨g,off+5,none⟩=some (c05)∧Below W.heap.size W w')
  (first | exact hS0 | (go_split_ands; exact ⟨hold hb (by assumption),hold hb (by assumption),hold hb (by assumption),hold hb (by assumption),hold hb (by assumption),hold hb (by assumption),hold hb (by assumption),hold hb (by assumption),z02 (by assumption) hb⟩))
  (first | (go_at_call 12; (with_reducible refine (HG0.out.at_ ?_).mono ?_); (go_split_ands; assumption); rintro e w' ⟨t0,rfl,ht0,hb⟩; have hz0:t0.size≤1099511627776:=(by rw [z0c ht0.out]; exact hL); have hr0:=z0f (n:=s.size+1+t0.size) (m:=1099511629776) (by omega) (by omega); have hr1:=z0f (n:=s.size+1+t0.size+1) (m:=1099511629776) (by omega) (by omega)))
 rename_i hH
 have hbel:Below W.heap.size W _:=hH.2.2.2.2.2.2.2.2
 have HB:=zhi (z02 Hb0.out hbel)
 clear hH hS0 hbel
 go_wp2_with fail
 go_ret
 refine z0x ?_ HB.out
 rw [← ht0.out]
 simp
set_option maxRecDepth 10000 in
set_option maxHeartbeats 4000000 in
theorem z7I (o a l:Int) (s:ByteArray) (g off c:Nat) (c00 c01 c02 c03 c04 c05:Value) (w:World) (K L:z04) (hK:K.length≤1099511627776) (hL:L.length≤1099511627776) (e00:w.cell? ⟨g,off,none⟩=some c00) (e01:w.cell? ⟨g,off+1,none⟩=some c01) (e02:w.cell? ⟨g,off+2,none⟩=some c02) (e03:w.cell? ⟨g,off+3,none⟩=some c03) (e04:w.cell? ⟨g,off+4,none⟩=some c04) (e05:w.cell? ⟨g,off+5,none⟩=some c05) (hG0:z1g 31 #[.int .i64 o] K w) (hG1:z1g 32 #[.agg #[c00,c01,c02,c03,c04,c05]] L w) :
  Calls Tryz.prog 12 #[.agg #[.int .i64 5,.int .i64 o,.int .i64 a,.int .i64 l,.string s,.slice (some ⟨g,off,none⟩) 1 c]] w (z0L (K++L) w):=by
 have hb0:=(Below.refl _ w).alloc (Nat.le_refl _) (.cells #[.int .i64 5,.int .i64 o,.int .i64 a,.int .i64 l,.string s,.slice (some ⟨g,off,none⟩) 1 c] 37)
 have Hb0:=zhi hb0
 have HG0:=zhi (hG0.next hb0)
 have HG1:=zhi (hG1.next hb0)
 have d00:=hold hb0 e00
 have d01:=hold hb0 e01
 have d02:=hold hb0 e02
 have d03:=hold hb0 e03
 have d04:=hold hb0 e04
 have d05:=hold hb0 e05
 have f1:(w.alloc (.cells #[.int .i64 5,.int .i64 o,.int .i64 a,.int .i64 l,.string s,.slice (some ⟨g,off,none⟩) 1 c] 37)).cell? ⟨w.heap.size,1,none⟩=some (.int .i64 o):=by rw [cell_of_row _ _ _ _ _ _ (heap_alloc_new w _)]; rfl
 have f5:(w.alloc (.cells #[.int .i64 5,.int .i64 o,.int .i64 a,.int .i64 l,.string s,.slice (some ⟨g,off,none⟩) 1 c] 37)).cell? ⟨w.heap.size,5,none⟩=some (.slice (some ⟨g,off,none⟩) 1 c):=by rw [cell_of_row _ _ _ _ _ _ (heap_alloc_new w _)]; rfl
 clear hb0 hG0 hG1 e00 e01 e02 e03 e04 e05
 go_enter Tryz.func12,Tryz.ntmps12
 go_wp2_with fail
 generalize w.alloc (.cells #[.int .i64 5,.int .i64 o,.int .i64 a,.int .i64 l,.string s,.slice (some ⟨g,off,none⟩) 1 c] 37)=W at *
 have hS0:W.drew.cell? ⟨w.heap.size,1,none⟩=some (.int .i64 o)∧W.drew.cell? ⟨w.heap.size,5,none⟩=some (.slice (some ⟨g,off,none⟩) 1 c)∧W.drew.cell? ⟨g,off,none⟩=some (c00)∧W.drew.cell? ⟨g,off+1,none⟩=some (c01)∧W.drew.cell? ⟨g,off+2,none⟩=some (c02)∧W.drew.cell? ⟨g,off+3,none⟩=some (c03)∧W.drew.cell? ⟨g,off+4,none⟩=some (c04)∧W.drew.cell? ⟨g,off+5,none⟩=some (c05)∧Below W.heap.size W W.drew:=⟨f1,f5,d00,d01,d02,d03,d04,d05,(Below.refl _ W).drew⟩
 go_region_held3 (fun w'=>w'.cell? ⟨w.heap.size,1,none⟩=some (.int .i64 o)∧w'.cell? ⟨w.heap.size,5,none⟩=some (.slice (some ⟨g,off,none⟩) 1 c)∧w'.cell? ⟨g,off,none⟩=some (c00)∧w'.cell? ⟨g,off+1,none⟩=some (c01)∧w'.cell? ⟨g,off+2,none⟩=some (c02)∧w'.cell? ⟨g,off+3,none⟩=some (c03)∧w'.cell? ⟨g,off+4,none⟩=some (c04)∧w'.cell? ⟨g,off+5,none⟩=some (c05)∧Below W.heap.size W w')
  (first | exact hS0 | (go_split_ands; exact ⟨hold hb (by assumption),hold hb (by assumption),hold hb (by assumption),hold hb (by assumption),hold hb (by assumption),hold hb (by assumption),hold hb (by assumption),hold hb (by assumption),z02 (by assumption) hb⟩))
  (first | (go_at_call 31; (with_reducible refine (HG0.out.at_ ?_).mono ?_); (go_split_ands; assumption); rintro e w' ⟨t0,rfl,ht0,hb⟩; have hz0:t0.size≤1099511627776:=(by rw [z0c ht0.out]; exact hK)) | (go_at_call 32; (with_reducible refine (HG1.out.at_ ?_).mono ?_); (go_split_ands; assumption); rintro e w' ⟨t1,rfl,ht1,hb⟩; have hz1:t1.size≤1099511627776:=(by rw [z0c ht1.out]; exact hL); have hr0:=z0f (n:=t0.size+t1.size) (m:=4398046511104) (by omega) (by omega)))
 rename_i hH
 have hbel:Below W.heap.size W _:=hH.2.2.2.2.2.2.2.2
 have HB:=zhi (z02 Hb0.out hbel)
 clear hH hS0 hbel
 go_wp2_with fail
 go_ret
 refine z0x ?_ HB.out
 rw [← ht0.out,← ht1.out]
 simp
set_option maxRecDepth 10000 in
set_option maxHeartbeats 4000000 in
theorem z6b (o a l:Int) (s:ByteArray) (g off c:Nat) (c00 c01 c02 c03 c04 c05 c10 c11 c12 c13 c14 c15:Value) (w:World) (L K M:z04) (hL:L.length≤1099511627776) (hK:K.length≤1099511627776) (hM:M.length≤1099511627776) (e00:w.cell? ⟨g,off,none⟩=some c00) (e01:w.cell? ⟨g,off+1,none⟩=some c01) (e02:w.cell? ⟨g,off+2,none⟩=some c02) (e03:w.cell? ⟨g,off+3,none⟩=some c03) (e04:w.cell? ⟨g,off+4,none⟩=some c04) (e05:w.cell? ⟨g,off+5,none⟩=some c05) (e10:w.cell? ⟨g,off+6,none⟩=some c10) (e11:w.cell? ⟨g,off+7,none⟩=some c11) (e12:w.cell? ⟨g,off+8,none⟩=some c12) (e13:w.cell? ⟨g,off+9,none⟩=some c13) (e14:w.cell? ⟨g,off+10,none⟩=some c14) (e15:w.cell? ⟨g,off+11,none⟩=some c15) (hG0:z1g 32 #[.agg #[c00,c01,c02,c03,c04,c05]] L w) (hG1:z1g 31 #[.int .i64 o] K w) (hG2:z1g 32 #[.agg #[c10,c11,c12,c13,c14,c15]] M w) :
  Calls Tryz.prog 12 #[.agg #[.int .i64 6,.int .i64 o,.int .i64 a,.int .i64 l,.string s,.slice (some ⟨g,off,none⟩) 2 c]] w (z0L (L++32 :: (K++32 :: M)) w):=by
 have hb0:=(Below.refl _ w).alloc (Nat.le_refl _) (.cells #[.int .i64 6,.int .i64 o,.int .i64 a,.int .i64 l,.string s,.slice (some ⟨g,off,none⟩) 2 c] 37)
 have Hb0:=zhi hb0
 have HG0:=zhi (hG0.next hb0)
 have HG1:=zhi (hG1.next hb0)
 have HG2:=zhi (hG2.next hb0)
 have d00:=hold hb0 e00
 have d01:=hold hb0 e01
 have d02:=hold hb0 e02
 have d03:=hold hb0 e03
 have d04:=hold hb0 e04
 have d05:=hold hb0 e05
 have d10:=hold hb0 e10
 have d11:=hold hb0 e11
 have d12:=hold hb0 e12
 have d13:=hold hb0 e13
 have d14:=hold hb0 e14
 have d15:=hold hb0 e15
 have f1:(w.alloc (.cells #[.int .i64 6,.int .i64 o,.int .i64 a,.int .i64 l,.string s,.slice (some ⟨g,off,none⟩) 2 c] 37)).cell? ⟨w.heap.size,1,none⟩=some (.int .i64 o):=by rw [cell_of_row _ _ _ _ _ _ (heap_alloc_new w _)]; rfl
 have f5:(w.alloc (.cells #[.int .i64 6,.int .i64 o,.int .i64 a,.int .i64 l,.string s,.slice (some ⟨g,off,none⟩) 2 c] 37)).cell? ⟨w.heap.size,5,none⟩=some (.slice (some ⟨g,off,none⟩) 2 c):=by rw [cell_of_row _ _ _ _ _ _ (heap_alloc_new w _)]; rfl
 clear hb0 hG0 hG1 hG2 e00 e01 e02 e03 e04 e05 e10 e11 e12 e13 e14 e15
 go_enter Tryz.func12,Tryz.ntmps12
 go_wp2_with fail
 generalize w.alloc (.cells #[.int .i64 6,.int .i64 o,.int .i64 a,.int .i64 l,.string s,.slice (some ⟨g,off,none⟩) 2 c] 37)=W at *
 have hS0:W.drew.cell? ⟨w.heap.size,1,none⟩=some (.int .i64 o)∧W.drew.cell? ⟨w.heap.size,5,none⟩=some (.slice (some ⟨g,off,none⟩) 2 c)∧W.drew.cell? ⟨g,off,none⟩=some (c00)∧W.drew.cell? ⟨g,off+1,none⟩=some (c01)∧W.drew.cell? ⟨g,off+2,none⟩=some (c02)∧W.drew.cell? ⟨g,off+3,none⟩=some (c03)∧W.drew.cell? ⟨g,off+4,none⟩=some (c04)∧W.drew.cell? ⟨g,off+5,none⟩=some (c05)∧W.drew.cell? ⟨g,off+6,none⟩=some (c10)∧W.drew.cell? ⟨g,off+7,none⟩=some (c11)∧W.drew.cell? ⟨g,off+8,none⟩=some (c12)∧W.drew.cell? ⟨g,off+9,none⟩=some (c13)∧W.drew.cell? ⟨g,off+10,none⟩=some (c14)∧W.drew.cell? ⟨g,off+11,none⟩=some (c15)∧Below W.heap.size W W.drew:=⟨f1,f5,d00,d01,d02,d03,d04,d05,d10,d11,d12,d13,d14,d15,(Below.refl _ W).drew⟩
 go_region_held3 (fun w'=>w'.cell? ⟨w.heap.size,1,none⟩=some (.int .i64 o)∧w'.cell? ⟨w.heap.size,5,none⟩=some (.slice (some ⟨g,off,none⟩) 2 c)∧w'.cell? ⟨g,off,none⟩=some (c00)∧w'.cell? ⟨g,off+1,none⟩=some (c01)∧w'.cell? ⟨g,off+2,none⟩=some (c02)∧w'.cell? ⟨g,off+3,none⟩=some (c03)∧w'.cell? ⟨g,off+4,none⟩=some (c04)∧w'.cell? ⟨g,off+5,none⟩=some (c05)∧w'.cell? ⟨g,off+6,none⟩=some (c10)∧w'.cell? ⟨g,off+7,none⟩=some (c11)∧w'.cell? ⟨g,off+8,none⟩=some (c12)∧w'.cell? ⟨g,off+9,none⟩=some (c13)∧w'.cell? ⟨g,off+10,none⟩=some (c14)∧w'.cell? ⟨g,off+11,none⟩=some (c15)∧Below W.heap.size W w')
  (first | exact hS0 | (go_split_ands; exact ⟨hold hb (by assumption),hold hb (by assumption),hold hb (by assumption),hold hb (by assumption),hold hb (by assumption),hold hb (by assumption),hold hb (by assumption),hold hb (by assumption),hold hb (by assumption),hold hb (by assumption),hold hb (by assumption),hold hb (by assumption),hold hb (by assumption),hold hb (by assumption),z02 (by assumption) hb⟩))
  (first | (go_at_call 32; (with_reducible refine (HG0.out.at_ ?_).mono ?_); (go_split_ands; assumption); rintro e w' ⟨t0,rfl,ht0,hb⟩; have hz0:t0.size≤1099511627776:=(by rw [z0c ht0.out]; exact hL); have hr0:=z0f (n:=t0.size+1) (m:=4398046511104) (by omega) (by omega)) | (go_at_call 31; (with_reducible refine (HG1.out.at_ ?_).mono ?_); (go_split_ands; assumption); rintro e w' ⟨t1,rfl,ht1,hb⟩; have hz1:t1.size≤1099511627776:=(by rw [z0c ht1.out]; exact hK); have hr1:=z0f (n:=t0.size+1+t1.size) (m:=4398046511104) (by omega) (by omega); have hr2:=z0f (n:=t0.size+1+t1.size+1) (m:=4398046511104) (by omega) (by omega)) | (go_at_call 32; (with_reducible refine (HG2.out.at_ ?_).mono ?_); (go_split_ands; assumption); rintro e w' ⟨t2,rfl,ht2,hb⟩; have hz2:t2.size≤1099511627776:=(by rw [z0c ht2.out]; exact hM); have hr3:=z0f (n:=t0.size+1+t1.size+1+t2.size) (m:=4398046511104) (by omega) (by omega)))
 rename_i hH
 have hbel:Below W.heap.size W _:=hH.2.2.2.2.2.2.2.2.2.2.2.2.2.2
 have HB:=zhi (z02 Hb0.out hbel)
 clear hH hS0 hbel
 go_wp2_with fail
 go_ret
 refine z0x ?_ HB.out
 rw [← ht0.out,← ht1.out,← ht2.out]
 simp
set_option maxRecDepth 10000 in
set_option maxHeartbeats 4000000 in
theorem zay (o a l:Int) (s:ByteArray) (g off c:Nat) (c00 c01 c02 c03 c04 c05 c10 c11 c12 c13 c14 c15:Value) (w:World) (L M:z04) (hL:L.length≤1099511627776) (hM:M.length≤1099511627776) (e00:w.cell? ⟨g,off,none⟩=some c00) (e01:w.cell? ⟨g,off+1,none⟩=some c01) (e02:w.cell? ⟨g,off+2,none⟩=some c02) (e03:w.cell? ⟨g,off+3,none⟩=some c03) (e04:w.cell? ⟨g,off+4,none⟩=some c04) (e05:w.cell? ⟨g,off+5,none⟩=some c05) (e10:w.cell? ⟨g,off+6,none⟩=some c10) (e11:w.cell? ⟨g,off+7,none⟩=some c11) (e12:w.cell? ⟨g,off+8,none⟩=some c12) (e13:w.cell? ⟨g,off+9,none⟩=some c13) (e14:w.cell? ⟨g,off+10,none⟩=some c14) (e15:w.cell? ⟨g,off+11,none⟩=some c15) (hG0:z1g 32 #[.agg #[c00,c01,c02,c03,c04,c05]] L w) (hG1:z1g 32 #[.agg #[c10,c11,c12,c13,c14,c15]] M w) :
  Calls Tryz.prog 12 #[.agg #[.int .i64 7,.int .i64 o,.int .i64 a,.int .i64 l,.string s,.slice (some ⟨g,off,none⟩) 2 c]] w (z0L (L++[32,38,38,32]++M) w):=by
 have hb0:=(Below.refl _ w).alloc (Nat.le_refl _) (.cells #[.int .i64 7,.int .i64 o,.int .i64 a,.int .i64 l,.string s,.slice (some ⟨g,off,none⟩) 2 c] 37)
 have Hb0:=zhi hb0
 have HG0:=zhi (hG0.next hb0)
 have HG1:=zhi (hG1.next hb0)
 have d00:=hold hb0 e00
 have d01:=hold hb0 e01
 have d02:=hold hb0 e02
 have d03:=hold hb0 e03
 have d04:=hold hb0 e04
 have d05:=hold hb0 e05
 have d10:=hold hb0 e10
 have d11:=hold hb0 e11
 have d12:=hold hb0 e12
 have d13:=hold hb0 e13
 have d14:=hold hb0 e14
 have d15:=hold hb0 e15
 have f5:(w.alloc (.cells #[.int .i64 7,.int .i64 o,.int .i64 a,.int .i64 l,.string s,.slice (some ⟨g,off,none⟩) 2 c] 37)).cell? ⟨w.heap.size,5,none⟩=some (.slice (some ⟨g,off,none⟩) 2 c):=by rw [cell_of_row _ _ _ _ _ _ (heap_alloc_new w _)]; rfl
 clear hb0 hG0 hG1 e00 e01 e02 e03 e04 e05 e10 e11 e12 e13 e14 e15
 go_enter Tryz.func12,Tryz.ntmps12
 go_wp2_with fail
 generalize w.alloc (.cells #[.int .i64 7,.int .i64 o,.int .i64 a,.int .i64 l,.string s,.slice (some ⟨g,off,none⟩) 2 c] 37)=W at *
 have hS0:W.drew.cell? ⟨w.heap.size,5,none⟩=some (.slice (some ⟨g,off,none⟩) 2 c)∧W.drew.cell? ⟨g,off,none⟩=some (c00)∧W.drew.cell? ⟨g,off+1,none⟩=some (c01)∧W.drew.cell? ⟨g,off+2,none⟩=some (c02)∧W.drew.cell? ⟨g,off+3,none⟩=some (c03)∧W.drew.cell? ⟨g,off+4,none⟩=some (c04)∧W.drew.cell? ⟨g,off+5,none⟩=some (c05)∧W.drew.cell? ⟨g,off+6,none⟩=some (c10)∧W.drew.cell? ⟨g,off+7,none⟩=some (c11)∧W.drew.cell? ⟨g,off+8,none⟩=some (c12)∧W.drew.cell? ⟨g,off+9,none⟩=some (c13)∧W.drew.cell? ⟨g,off+10,none⟩=some (c14)∧W.drew.cell? ⟨g,off+11,none⟩=some (c15)∧Below W.heap.size W W.drew:=⟨f5,d00,d01,d02,d03,d04,d05,d10,d11,d12,d13,d14,d15,(Below.refl _ W).drew⟩
 go_region_held3 (fun w'=>w'.cell? ⟨w.heap.size,5,none⟩=some (.slice (some ⟨g,off,none⟩) 2 c)∧w'.cell? ⟨g,off,none⟩=some (c00)∧w'.cell? ⟨g,off+1,none⟩=some (c01)∧w'.cell? ⟨g,off+2,none⟩=some (c02)∧w'.cell? ⟨g,off+3,none⟩=some (c03)∧w'.cell? ⟨g,off+4,none⟩=some (c04)∧w'.cell? ⟨g,off+5,none⟩=some (c05)∧w'.cell? ⟨g,off+6,none⟩=some (c10)∧w'.cell? ⟨g,off+7,none⟩=some (c11)∧w'.cell? ⟨g,off+8,none⟩=some (c12)∧w'.cell? ⟨g,off+9,none⟩=some (c13)∧w'.cell? ⟨g,off+10,none⟩=some (c14)∧w'.cell? ⟨g,off+11,none⟩=some (c15)∧Below W.heap.size W w')
  (first | exact hS0 | (go_split_ands; exact ⟨hold hb (by assumption),hold hb (by assumption),hold hb (by assumption),hold hb (by assumption),hold hb (by assumption),hold hb (by assumption),hold hb (by assumption),hold hb (by assumption),hold hb (by assumption),hold hb (by assumption),hold hb (by assumption),hold hb (by assumption),hold hb (by assumption),z02 (by assumption) hb⟩))
  (first | (go_at_call 32; (with_reducible refine (HG0.out.at_ ?_).mono ?_); (go_split_ands; assumption); rintro e w' ⟨t0,rfl,ht0,hb⟩; have hz0:t0.size≤1099511627776:=(by rw [z0c ht0.out]; exact hL); have hr0:=z0f (n:=t0.size+4) (m:=4398046511104) (by omega) (by omega)) | (go_at_call 32; (with_reducible refine (HG1.out.at_ ?_).mono ?_); (go_split_ands; assumption); rintro e w' ⟨t1,rfl,ht1,hb⟩; have hz1:t1.size≤1099511627776:=(by rw [z0c ht1.out]; exact hM); have hr1:=z0f (n:=t0.size+4+t1.size) (m:=4398046511104) (by omega) (by omega)))
 rename_i hH
 have hbel:Below W.heap.size W _:=hH.2.2.2.2.2.2.2.2.2.2.2.2.2
 have HB:=zhi (z02 Hb0.out hbel)
 clear hH hS0 hbel
 go_wp2_with fail
 go_ret
 refine z0x ?_ HB.out
 rw [← ht0.out,← ht1.out]
 simp
set_option maxRecDepth 10000 in
set_option maxHeartbeats 4000000 in
theorem zco (o a l:Int) (s:ByteArray) (g off c:Nat) (c00 c01 c02 c03 c04 c05 c10 c11 c12 c13 c14 c15:Value) (w:World) (L M:z04) (hL:L.length≤1099511627776) (hM:M.length≤1099511627776) (e00:w.cell? ⟨g,off,none⟩=some c00) (e01:w.cell? ⟨g,off+1,none⟩=some c01) (e02:w.cell? ⟨g,off+2,none⟩=some c02) (e03:w.cell? ⟨g,off+3,none⟩=some c03) (e04:w.cell? ⟨g,off+4,none⟩=some c04) (e05:w.cell? ⟨g,off+5,none⟩=some c05) (e10:w.cell? ⟨g,off+6,none⟩=some c10) (e11:w.cell? ⟨g,off+7,none⟩=some c11) (e12:w.cell? ⟨g,off+8,none⟩=some c12) (e13:w.cell? ⟨g,off+9,none⟩=some c13) (e14:w.cell? ⟨g,off+10,none⟩=some c14) (e15:w.cell? ⟨g,off+11,none⟩=some c15) (hG0:z1g 32 #[.agg #[c00,c01,c02,c03,c04,c05]] L w) (hG1:z1g 32 #[.agg #[c10,c11,c12,c13,c14,c15]] M w) :
  Calls Tryz.prog 12 #[.agg #[.int .i64 8,.int .i64 o,.int .i64 a,.int .i64 l,.string s,.slice (some ⟨g,off,none⟩) 2 c]] w (z0L (L++[32,124,124,32]++M) w):=by
 have hb0:=(Below.refl _ w).alloc (Nat.le_refl _) (.cells #[.int .i64 8,.int .i64 o,.int .i64 a,.int .i64 l,.string s,.slice (some ⟨g,off,none⟩) 2 c] 37)
 have Hb0:=zhi hb0
 have HG0:=zhi (hG0.next hb0)
 have HG1:=zhi (hG1.next hb0)
 have d00:=hold hb0 e00
 have d01:=hold hb0 e01
 have d02:=hold hb0 e02
 have d03:=hold hb0 e03
 have d04:=hold hb0 e04
 have d05:=hold hb0 e05
 have d10:=hold hb0 e10
 have d11:=hold hb0 e11
 have d12:=hold hb0 e12
 have d13:=hold hb0 e13
 have d14:=hold hb0 e14
 have d15:=hold hb0 e15
 have f5:(w.alloc (.cells #[.int .i64 8,.int .i64 o,.int .i64 a,.int .i64 l,.string s,.slice (some ⟨g,off,none⟩) 2 c] 37)).cell? ⟨w.heap.size,5,none⟩=some (.slice (some ⟨g,off,none⟩) 2 c):=by rw [cell_of_row _ _ _ _ _ _ (heap_alloc_new w _)]; rfl
 clear hb0 hG0 hG1 e00 e01 e02 e03 e04 e05 e10 e11 e12 e13 e14 e15
 go_enter Tryz.func12,Tryz.ntmps12
 go_wp2_with fail
 generalize w.alloc (.cells #[.int .i64 8,.int .i64 o,.int .i64 a,.int .i64 l,.string s,.slice (some ⟨g,off,none⟩) 2 c] 37)=W at *
 have hS0:W.drew.cell? ⟨w.heap.size,5,none⟩=some (.slice (some ⟨g,off,none⟩) 2 c)∧W.drew.cell? ⟨g,off,none⟩=some (c00)∧W.drew.cell? ⟨g,off+1,none⟩=some (c01)∧W.drew.cell? ⟨g,off+2,none⟩=some (c02)∧W.drew.cell? ⟨g,off+3,none⟩=some (c03)∧W.drew.cell? ⟨g,off+4,none⟩=some (c04)∧W.drew.cell? ⟨g,off+5,none⟩=some (c05)∧W.drew.cell? ⟨g,off+6,none⟩=some (c10)∧W.drew.cell? ⟨g,off+7,none⟩=some (c11)∧W.drew.cell? ⟨g,off+8,none⟩=some (c12)∧W.drew.cell? ⟨g,off+9,none⟩=some (c13)∧W.drew.cell? ⟨g,off+10,none⟩=some (c14)∧W.drew.cell? ⟨g,off+11,none⟩=some (c15)∧Below W.heap.size W W.drew:=⟨f5,d00,d01,d02,d03,d04,d05,d10,d11,d12,d13,d14,d15,(Below.refl _ W).drew⟩
 go_region_held3 (fun w'=>w'.cell? ⟨w.heap.size,5,none⟩=some (.slice (some ⟨g,off,none⟩) 2 c)∧w'.cell? ⟨g,off,none⟩=some (c00)∧w'.cell? ⟨g,off+1,none⟩=some (c01)∧w'.cell? ⟨g,off+2,none⟩=some (c02)∧w'.cell? ⟨g,off+3,none⟩=some (c03)∧w'.cell? ⟨g,off+4,none⟩=some (c04)∧w'.cell? ⟨g,off+5,none⟩=some (c05)∧w'.cell? ⟨g,off+6,none⟩=some (c10)∧w'.cell? ⟨g,off+7,none⟩=some (c11)∧w'.cell? ⟨g,off+8,none⟩=some (c12)∧w'.cell? ⟨g,off+9,none⟩=some (c13)∧w'.cell? ⟨g,off+10,none⟩=some (c14)∧w'.cell? ⟨g,off+11,none⟩=some (c15)∧Below W.heap.size W w')
  (first | exact hS0 | (go_split_ands; exact ⟨hold hb (by assumption),hold hb (by assumption),hold hb (by assumption),hold hb (by assumption),hold hb (by assumption),hold hb (by assumption),hold hb (by assumption),hold hb (by assumption),hold hb (by assumption),hold hb (by assumption),hold hb (by assumption),hold hb (by assumption),hold hb (by assumption),z02 (by assumption) hb⟩))
  (first | (go_at_call 32; (with_reducible refine (HG0.out.at_ ?_).mono ?_); (go_split_ands; assumption); rintro e w' ⟨t0,rfl,ht0,hb⟩; have hz0:t0.size≤1099511627776:=(by rw [z0c ht0.out]; exact hL); have hr0:=z0f (n:=t0.size+4) (m:=4398046511104) (by omega) (by omega)) | (go_at_call 32; (with_reducible refine (HG1.out.at_ ?_).mono ?_); (go_split_ands; assumption); rintro e w' ⟨t1,rfl,ht1,hb⟩; have hz1:t1.size≤1099511627776:=(by rw [z0c ht1.out]; exact hM); have hr1:=z0f (n:=t0.size+4+t1.size) (m:=4398046511104) (by omega) (by omega)))
 rename_i hH
 have hbel:Below W.heap.size W _:=hH.2.2.2.2.2.2.2.2.2.2.2.2.2
 have HB:=zhi (z02 Hb0.out hbel)
 clear hH hS0 hbel
 go_wp2_with fail
 go_ret
 refine z0x ?_ HB.out
 rw [← ht0.out,← ht1.out]
 simp
set_option maxRecDepth 10000 in
set_option maxHeartbeats 4000000 in
theorem z8x (o a l:Int) (s:ByteArray) (A:Option Addr) (n c:Nat) (w:World) (L:z04) (hs:s.size≤1000) (hL:L.length≤1099511627776)  (hG0:z1g 33 #[.slice A n c] L w) :
  Calls Tryz.prog 12 #[.agg #[.int .i64 9,.int .i64 o,.int .i64 a,.int .i64 l,.string s,.slice A n c]] w (z0L (s.data.toList++L) w):=by
 have hb0:=(Below.refl _ w).alloc (Nat.le_refl _) (.cells #[.int .i64 9,.int .i64 o,.int .i64 a,.int .i64 l,.string s,.slice A n c] 37)
 have Hb0:=zhi hb0
 have HG0:=zhi (hG0.next hb0)
 have f4:(w.alloc (.cells #[.int .i64 9,.int .i64 o,.int .i64 a,.int .i64 l,.string s,.slice A n c] 37)).cell? ⟨w.heap.size,4,none⟩=some (.string s):=by rw [cell_of_row _ _ _ _ _ _ (heap_alloc_new w _)]; rfl
 have f5:(w.alloc (.cells #[.int .i64 9,.int .i64 o,.int .i64 a,.int .i64 l,.string s,.slice A n c] 37)).cell? ⟨w.heap.size,5,none⟩=some (.slice A n c):=by rw [cell_of_row _ _ _ _ _ _ (heap_alloc_new w _)]; rfl
 clear hb0 hG0
 go_enter Tryz.func12,Tryz.ntmps12
 go_wp2_with fail
 generalize w.alloc (.cells #[.int .i64 9,.int .i64 o,.int .i64 a,.int .i64 l,.string s,.slice A n c] 37)=W at *
 have hS0:W.drew.cell? ⟨w.heap.size,4,none⟩=some (.string s)∧W.drew.cell? ⟨w.heap.size,5,none⟩=some (.slice A n c)∧Below W.heap.size W W.drew:=⟨f4,f5,(Below.refl _ W).drew⟩
 go_region_held3 (fun w'=>w'.cell? ⟨w.heap.size,4,none⟩=some (.string s)∧w'.cell? ⟨w.heap.size,5,none⟩=some (.slice A n c)∧Below W.heap.size W w')
  (first | exact hS0 | (go_split_ands; exact ⟨hold hb (by assumption),hold hb (by assumption),z02 (by assumption) hb⟩))
  (first | (go_at_call 33; (with_reducible refine (HG0.out.at_ ?_).mono ?_); (go_split_ands; assumption); rintro e w' ⟨t0,rfl,ht0,hb⟩; have hz0:t0.size≤1099511627776:=(by rw [z0c ht0.out]; exact hL); have hr0:=z0f (n:=s.size+t0.size) (m:=4398046511104) (by omega) (by omega)))
 rename_i hH
 have hbel:Below W.heap.size W _:=hH.2.2
 have HB:=zhi (z02 Hb0.out hbel)
 clear hH hS0 hbel
 go_wp2_with fail
 go_ret
 refine z0x ?_ HB.out
 rw [← ht0.out]
 simp
end Go.Proofs.YtkeihncfmbicnaaGreatDoor
namespace Go.Proofs.YtkeihncfmbicnaaGreatDoor
open Go.RowKit
set_option maxRecDepth 10000 in
set_option maxHeartbeats 2000000 in
theorem z1v (k o a l:Int) (s:ByteArray) (A:Option Addr) (n c:Nat) (w:World) (L:z04) (ha:a<9223372036854775808) (hs:s.size≤1000)
  (h:(k=1∧L=numL (max a 0).toNat)∨((k=13∨k=2∨k=3)∧L=s.data.toList)∨(k=12∧L=[114,101,97,100])∨(k=11∧L=38 :: s.data.toList)) :
  Calls Tryz.prog 12 #[.agg #[.int .i64 k,.int .i64 o,.int .i64 a,.int .i64 l,.string s,.slice A n c]] w (z0L L w):=by
 have hb0:=(Below.refl _ w).alloc (Nat.le_refl _) (.cells #[.int .i64 k,.int .i64 o,.int .i64 a,.int .i64 l,.string s,.slice A n c] 37)
 have Hb0:=zhi hb0
 clear hb0
 rcases h with ⟨rfl,hL⟩ | ⟨rfl | rfl | rfl,hL⟩ | ⟨rfl,hL⟩ | ⟨rfl,hL⟩
 ·have HL:=zhi hL
  clear hL
  go_enter Tryz.func12,Tryz.ntmps12
  go_wp2_with fail
  refine (z2k (max a 0).toNat _ _ (by omega) (by omega)).mono ?_
  rintro e w1 ⟨t,rfl,ht,hb⟩
  have Hb:=zhi (z02 Hb0.out hb)
  clear hb
  go_wp2_with fail
  go_ret
  exact z0x (by rw [HL.out]; exact ht.out) Hb.out
 ·have HL:=zhi hL
  clear hL
  go_enter Tryz.func12,Tryz.ntmps12
  go_wp2_with fail
  go_ret
  exact z0x HL.out.symm Hb0.out
 ·have HL:=zhi hL
  clear hL
  go_enter Tryz.func12,Tryz.ntmps12
  go_wp2_with fail
  go_ret
  exact z0x HL.out.symm Hb0.out
 ·have HL:=zhi hL
  clear hL
  go_enter Tryz.func12,Tryz.ntmps12
  go_wp2_with fail
  go_ret
  exact z0x HL.out.symm Hb0.out
 ·have HL:=zhi hL
  clear hL
  go_enter Tryz.func12,Tryz.ntmps12
  go_wp2_with fail
  go_ret
  exact z0x HL.out.symm Hb0.out
 ·have HL:=zhi hL
  clear hL
  go_enter Tryz.func12,Tryz.ntmps12
  go_wp2_with fail
  go_ret
  exact z0x (by rw [HL.out]; simp) Hb0.out
set_option maxRecDepth 10000 in
set_option maxHeartbeats 2000000 in
theorem z7J (o a l kk o1 a1 l1:Int) (s s1:ByteArray) (A1:Option Addr) (n1 m1 g off c n:Nat) (w:World) (L M R:z04) (hL:L.length≤1099511627776) (hM:M.length≤1099511627776) (hc:n+1≤c) (hn:n≤1000)
  (e0:w.cell? ⟨g,off,none⟩=some (.int .i64 kk)) (e1:w.cell? ⟨g,off+1,none⟩=some (.int .i64 o1)) (e2:w.cell? ⟨g,off+2,none⟩=some (.int .i64 a1)) (e3:w.cell? ⟨g,off+3,none⟩=some (.int .i64 l1)) (e4:w.cell? ⟨g,off+4,none⟩=some (.string s1)) (e5:w.cell? ⟨g,off+5,none⟩=some (.slice A1 n1 m1))
  (hG0:z1g 32 #[.agg #[.int .i64 kk,.int .i64 o1,.int .i64 a1,.int .i64 l1,.string s1,.slice A1 n1 m1]] L w) (hG1:z1g 33 #[.slice (if c=1 then some ⟨g,off,none⟩ else some ⟨g,off+6,none⟩) n (c - 1)] M w)
  (hR:((kk=13∨kk=2∨kk=3)∧R=40 :: (L++[41])++M)∨(¬(kk=13∨kk=2∨kk=3)∧R=L++M)) :
  Calls Tryz.prog 12 #[.agg #[.int .i64 10,.int .i64 o,.int .i64 a,.int .i64 l,.string s,.slice (some ⟨g,off,none⟩) (n+1) c]] w (z0L R w):=by
 have hb0:=(Below.refl _ w).alloc (Nat.le_refl _) (.cells #[.int .i64 10,.int .i64 o,.int .i64 a,.int .i64 l,.string s,.slice (some ⟨g,off,none⟩) (n+1) c] 37)
 have Hb0:=zhi hb0
 have d0:=hold hb0 e0
 have d1:=hold hb0 e1
 have d2:=hold hb0 e2
 have d3:=hold hb0 e3
 have d4:=hold hb0 e4
 have d5:=hold hb0 e5
 have HG0:=zhi hG0
 have f5:(w.alloc (.cells #[.int .i64 10,.int .i64 o,.int .i64 a,.int .i64 l,.string s,.slice (some ⟨g,off,none⟩) (n+1) c] 37)).cell? ⟨w.heap.size,5,none⟩=some (.slice (some ⟨g,off,none⟩) (n+1) c):=by rw [cell_of_row _ _ _ _ _ _ (heap_alloc_new w _)]; rfl
 have HG1:=zhi hG1
 have HR:=zhi hR
 clear hb0 hG0 hG1 hR e0 e1 e2 e3 e4 e5
 go_enter Tryz.func12,Tryz.ntmps12
 go_wp2_with fail
 have hb1:=Hb0.out.alloc Hb0.out.size (.cells #[.int .i64 kk,.int .i64 o1,.int .i64 a1,.int .i64 l1,.string s1,.slice A1 n1 m1] 37)
 refine (HG0.out.at_ hb1).mono ?_
 rintro e w1 ⟨t,rfl,ht,hb⟩
 have hts:t.size≤1099511627776:=by rw [z0c ht.out]; exact hL
 have f5b:=hold hb (hold ((Below.refl _ _).alloc (Nat.le_refl _) (.cells #[.int .i64 kk,.int .i64 o1,.int .i64 a1,.int .i64 l1,.string s1,.slice A1 n1 m1] 37)) f5)
 have k0:w1.cell? ⟨w.heap.size+1,0,none⟩=some (.int .i64 kk):=hold hb (by
  rw [show w.heap.size+1=(w.alloc (.cells #[.int .i64 10,.int .i64 o,.int .i64 a,.int .i64 l,.string s,.slice (some ⟨g,off,none⟩) (n+1) c] 37)).heap.size by simp]
  exact cell_of_row _ _ 0 _ _ _ (heap_alloc_new (w.alloc (.cells #[.int .i64 10,.int .i64 o,.int .i64 a,.int .i64 l,.string s,.slice (some ⟨g,off,none⟩) (n+1) c] 37)) (.cells #[.int .i64 kk,.int .i64 o1,.int .i64 a1,.int .i64 l1,.string s1,.slice A1 n1 m1] 37)))
 have Hb1:=zhi (z02 hb1 hb)
 clear hb hb1 d0 d1 d2 d3 d4 d5 f5 Hb0
 by_cases hk:kk=13∨kk=2∨kk=3
 ·have HR2:Hid (R=40 :: (L++[41])++M):=by
   rcases HR.out with ⟨_,h⟩ | ⟨h,_⟩
   ·exact zhi h
   ·exact absurd hk h
  clear HR
  rcases hk with rfl | rfl | rfl
  all_goals
   by_cases hc1:c=1
   ·subst hc1
    obtain rfl:n=0:=by omega
    have HG2:Hid (z1g 33 #[.slice (some ⟨g,off,none⟩) 0 0] M w):=zhi (by simpa using HG1.out)
    clear HG1
    go_wp2_with fail
    refine (HG2.out.at_ Hb1.out).mono ?_
    rintro e w2 ⟨u,rfl,hu,hb2⟩
    have hus:u.size≤1099511627776:=by rw [z0c hu.out]; exact hM
    have Hb2:=zhi (z02 Hb1.out hb2)
    clear hb2
    go_wp2_with fail
    go_ret
    exact z0x (by rw [HR2.out,← ht.out,← hu.out]; simp) Hb2.out
   ·have hc2:1<c:=by omega
    have HG2:Hid (z1g 33 #[.slice (some ⟨g,off+6,none⟩) n (c - 1)] M w):=zhi (by have:=HG1.out; rwa [if_neg hc1] at this)
    clear HG1 hc1
    go_wp2_with fail
    refine (HG2.out.at_ Hb1.out).mono ?_
    rintro e w2 ⟨u,rfl,hu,hb2⟩
    have hus:u.size≤1099511627776:=by rw [z0c hu.out]; exact hM
    have Hb2:=zhi (z02 Hb1.out hb2)
    clear hb2
    go_wp2_with fail
    go_ret
    exact z0x (by rw [HR2.out,← ht.out,← hu.out]; simp) Hb2.out
 ·have HR2:Hid (R=L++M):=by
   rcases HR.out with ⟨h,_⟩ | ⟨_,h⟩
   ·exact absurd h hk
   ·exact zhi h
  have q1:(kk == 13)=false:=by simp; omega
  have q2:(kk == 2)=false:=by simp; omega
  have q3:(kk == 3)=false:=by simp; omega
  clear HR hk
  by_cases hc1:c=1
  ·subst hc1
   obtain rfl:n=0:=by omega
   have HG2:Hid (z1g 33 #[.slice (some ⟨g,off,none⟩) 0 0] M w):=zhi (by simpa using HG1.out)
   clear HG1
   go_wp2_with fail
   refine (HG2.out.at_ Hb1.out).mono ?_
   rintro e w2 ⟨u,rfl,hu,hb2⟩
   have hus:u.size≤1099511627776:=by rw [z0c hu.out]; exact hM
   have Hb2:=zhi (z02 Hb1.out hb2)
   clear hb2
   go_wp2_with fail
   go_ret
   exact z0x (by rw [HR2.out,← ht.out,← hu.out]; simp) Hb2.out
  ·have hc2:1<c:=by omega
   have HG2:Hid (z1g 33 #[.slice (some ⟨g,off+6,none⟩) n (c - 1)] M w):=zhi (by have:=HG1.out; rwa [if_neg hc1] at this)
   clear HG1 hc1
   go_wp2_with fail
   refine (HG2.out.at_ Hb1.out).mono ?_
   rintro e w2 ⟨u,rfl,hu,hb2⟩
   have hus:u.size≤1099511627776:=by rw [z0c hu.out]; exact hM
   have Hb2:=zhi (z02 Hb1.out hb2)
   clear hb2
   go_wp2_with fail
   go_ret
   exact z0x (by rw [HR2.out,← ht.out,← hu.out]; simp) Hb2.out
end Go.Proofs.YtkeihncfmbicnaaGreatDoor
namespace Go.Proofs.YtkeihncfmbicnaaGreatDoor
open Go.RowKit
theorem z1P {F:Nat→Prop} {w:World} {d:Nat} {x:Ex} {r:List Ex} {A:Option Addr} {c:Nat} (h:RowE F w d (x :: r) A c):∃ g off c0 c1 c2 c3 c4 c5,A=some ⟨g,off,none⟩∧w.cell? ⟨g,off,none⟩=some c0∧w.cell? ⟨g,off+1,none⟩=some c1∧w.cell? ⟨g,off+2,none⟩=some c2∧w.cell? ⟨g,off+3,none⟩=some c3∧w.cell? ⟨g,off+4,none⟩=some c4∧w.cell? ⟨g,off+5,none⟩=some c5∧ExV F w d x (.agg #[c0,c1,c2,c3,c4,c5]):=by
 obtain ⟨g,off,c0,c1,c2,c3,c4,c5,hA,_,e0,e1,e2,e3,e4,e5,hx⟩:=h.2 0 x rfl
 exact ⟨g,off,c0,c1,c2,c3,c4,c5,hA,by simpa using e0,by simpa using e1,by simpa using e2,by simpa using e3,by simpa using e4,by simpa using e5,hx⟩
theorem z3d {F:Nat→Prop} {w:World} {d:Nat} {x y:Ex} {r:List Ex} {g off:Nat} {c:Nat} (h:RowE F w d (x :: y :: r) (some ⟨g,off,none⟩) c):∃ c0 c1 c2 c3 c4 c5,w.cell? ⟨g,off+6,none⟩=some c0∧w.cell? ⟨g,off+7,none⟩=some c1∧w.cell? ⟨g,off+8,none⟩=some c2∧w.cell? ⟨g,off+9,none⟩=some c3∧w.cell? ⟨g,off+10,none⟩=some c4∧w.cell? ⟨g,off+11,none⟩=some c5∧ExV F w d y (.agg #[c0,c1,c2,c3,c4,c5]):=by
 obtain ⟨g',off',c0,c1,c2,c3,c4,c5,hA,_,e0,e1,e2,e3,e4,e5,hx⟩:=h.2 1 y rfl
 injection hA with hA
 injection hA with h1 h2 _
 subst h1 h2
 exact ⟨c0,c1,c2,c3,c4,c5,by simpa using e0,by simpa using e1,by simpa using e2,by simpa using e3,by simpa using e4,by simpa using e5,hx⟩
theorem zbd {F:Nat→Prop} {w:World} {d:Nat} {x:Ex} {r:List Ex} {g off:Nat} {c:Nat} (h:RowE F w d (x :: r) (some ⟨g,off,none⟩) c):RowE F w d r (if c=1 then some ⟨g,off,none⟩ else some ⟨g,off+6,none⟩) (c - 1):=by
 have hc:=h.1
 simp only [List.length_cons] at hc
 refine ⟨by omega,fun i y hy=>?_⟩
 have hne:c≠1:=by
  intro e
  have:r=[]:=List.eq_nil_of_length_eq_zero (by omega)
  rw [this] at hy
  simp at hy
 obtain ⟨g',off',c0,c1,c2,c3,c4,c5,hA,hF,e0,e1,e2,e3,e4,e5,hx⟩:=h.2 (i+1) y (by simpa using hy)
 injection hA with hA
 injection hA with h1 h2 _
 subst h1 h2
 have e:off+(i+1) * 6=off+6+i * 6:=by omega
 rw [e] at e0 e1 e2 e3 e4 e5
 exact ⟨g,off+6,c0,c1,c2,c3,c4,c5,if_neg hne,hF,e0,e1,e2,e3,e4,e5,hx⟩
theorem RowE.low {F:Nat→Prop} {w w':World} {d:Nat} {xs:List Ex} {A:Option Addr} {c:Nat} (h:RowE F w d xs A c) (hb:Below w.heap.size w w'):RowE (fun k=>k<w'.heap.size) w' d xs A c :=
 ⟨h.1,fun i x hi=>by
  obtain ⟨g,off,c0,c1,c2,c3,c4,c5,hA,hF,h0,h1,h2,h3,h4,h5,hx⟩:=h.2 i x hi
  exact ⟨g,off,c0,c1,c2,c3,c4,c5,hA,Nat.lt_of_lt_of_le (World.block_lt_of_cell? _ _ h0) hb.size,hold hb h0,hold hb h1,hold hb h2,hold hb h3,hold hb h4,hold hb h5,ExV.low hb d x _ hx⟩⟩
theorem z17 {d:Nat} (ih:z63 d) {F:Nat→Prop} {w:World} {x:Ex} {v:Value} (hx:ExV F w d x v) (hs:ShE d x) (hl:(opd d x).length≤1099511627776):z1g 32 #[v] (opd d x) w:=fun w' hb=>z9x d ih _ x v w' (ExV.low hb d x v hx) hs hl
theorem z4w {o:Int} {w:World} (h0:0≤o) (h1:o≤11):z1g 31 #[.int .i64 o] (z0U o) w:=fun w' _=>zej o w' h0 h1
theorem z4v {d:Nat} (ih:z63 d) {F:Nat→Prop} {w:World} {xs:List Ex} {A:Option Addr} {c n:Nat} (hn:xs.length=n) (hx:RowE F w d xs A c) (hs:∀ x∈xs,ShE d x) (h1:xs.length≤1000) (hl:(lst d xs).length≤1099511627776):z1g 33 #[.slice A n c] (lst d xs) w:=fun w' hb=>by
 subst hn
 exact zdP d ih _ xs A c w' (hx.low hb) hs h1 hl
theorem z38 {α:Type} {l:List α} (h:l.length=2):∃ a b,l=[a,b]:=by
 match l,h with
 | [a,b],_=>exact ⟨a,b,rfl⟩
theorem z7q (o:Int):(z0U o).length≤1099511627776:=by
 unfold z0U
 repeat' split
 all_goals simp
set_option maxRecDepth 10000 in
theorem z8C (d:Nat) (ih:z63 d):z63 (d+1):=by
 intro F x v w hx hs hl
 match x,hx,hs with
 | .mk k o a l s xs,⟨A,c,hv,hr⟩,⟨hn,hsz,_,ha,ho0,ho1,hsub,hk⟩ =>
  subst hv
  rcases hk with rfl | rfl | rfl | rfl | rfl | rfl | ⟨rfl,h1⟩ | ⟨rfl,h1⟩ | ⟨rfl,h2⟩ | ⟨rfl,h2⟩ | ⟨rfl,h2⟩ | rfl | ⟨rfl,h1⟩
  ·exact z1v 1 o a l s A xs.length c w _ ha hsz (.inl ⟨rfl,rfl⟩)
  ·exact z1v 13 o a l s A xs.length c w _ ha hsz (.inr (.inl ⟨.inl rfl,rfl⟩))
  ·exact z1v 2 o a l s A xs.length c w _ ha hsz (.inr (.inl ⟨.inr (.inl rfl),rfl⟩))
  ·exact z1v 3 o a l s A xs.length c w _ ha hsz (.inr (.inl ⟨.inr (.inr rfl),rfl⟩))
  ·exact z1v 12 o a l s A xs.length c w _ ha hsz (.inr (.inr (.inl ⟨rfl,rfl⟩)))
  ·exact z1v 11 o a l s A xs.length c w _ ha hsz (.inr (.inr (.inr ⟨rfl,rfl⟩)))
  ·obtain ⟨y,rfl⟩:=List.length_eq_one_iff.1 h1
   obtain ⟨g,off,c0,c1,c2,c3,c4,c5,rfl,e0,e1,e2,e3,e4,e5,hy⟩:=z1P hr
   have hL:(fmtE d y).length≤1099511627776:=by
    have:fmtE (d+1) (.mk 4 o a l s [y])=s.data.toList++91 :: (fmtE d y++[93]):=rfl
    rw [this] at hl
    simp at hl
    omega
   exact z8y o a l s g off c c0 c1 c2 c3 c4 c5 w (fmtE d y) hsz hL e0 e1 e2 e3 e4 e5 (fun w' hb=>ih _ y _ w' (ExV.low hb d y _ hy) (hsub y (by simp)) hL)
  ·obtain ⟨y,rfl⟩:=List.length_eq_one_iff.1 h1
   obtain ⟨g,off,c0,c1,c2,c3,c4,c5,rfl,e0,e1,e2,e3,e4,e5,hy⟩:=z1P hr
   have hL:(opd d y).length≤1099511627776:=by
    have:fmtE (d+1) (.mk 5 o a l s [y])=z0U o++opd d y:=rfl
    rw [this] at hl
    simp at hl
    omega
   exact z7I o a l s g off c c0 c1 c2 c3 c4 c5 w (z0U o) (opd d y) (z7q o) hL e0 e1 e2 e3 e4 e5 (z4w ho0 ho1) (z17 ih hy (hsub y (by simp)) hL)
  ·obtain ⟨y,z,rfl⟩:=z38 h2
   obtain ⟨g,off,c0,c1,c2,c3,c4,c5,rfl,e0,e1,e2,e3,e4,e5,hy⟩:=z1P hr
   obtain ⟨b0,b1,b2,b3,b4,b5,f0,f1,f2,f3,f4,f5,hz⟩:=z3d hr
   have:fmtE (d+1) (.mk 6 o a l s [y,z])=opd d y++32 :: (z0U o++32 :: opd d z):=rfl
   rw [this] at hl
   have hL:(opd d y).length≤1099511627776:=by simp at hl; omega
   have hM:(opd d z).length≤1099511627776:=by simp at hl; omega
   exact z6b o a l s g off c c0 c1 c2 c3 c4 c5 b0 b1 b2 b3 b4 b5 w (opd d y) (z0U o) (opd d z) hL (z7q o) hM e0 e1 e2 e3 e4 e5 f0 f1 f2 f3 f4 f5 (z17 ih hy (hsub y (by simp)) hL) (z4w ho0 ho1) (z17 ih hz (hsub z (by simp)) hM)
  ·obtain ⟨y,z,rfl⟩:=z38 h2
   obtain ⟨g,off,c0,c1,c2,c3,c4,c5,rfl,e0,e1,e2,e3,e4,e5,hy⟩:=z1P hr
   obtain ⟨b0,b1,b2,b3,b4,b5,f0,f1,f2,f3,f4,f5,hz⟩:=z3d hr
   have:fmtE (d+1) (.mk 7 o a l s [y,z])=opd d y++[32,38,38,32]++opd d z:=rfl
   rw [this] at hl
   have hL:(opd d y).length≤1099511627776:=by simp at hl; omega
   have hM:(opd d z).length≤1099511627776:=by simp at hl; omega
   exact zay o a l s g off c c0 c1 c2 c3 c4 c5 b0 b1 b2 b3 b4 b5 w (opd d y) (opd d z) hL hM e0 e1 e2 e3 e4 e5 f0 f1 f2 f3 f4 f5 (z17 ih hy (hsub y (by simp)) hL) (z17 ih hz (hsub z (by simp)) hM)
  ·obtain ⟨y,z,rfl⟩:=z38 h2
   obtain ⟨g,off,c0,c1,c2,c3,c4,c5,rfl,e0,e1,e2,e3,e4,e5,hy⟩:=z1P hr
   obtain ⟨b0,b1,b2,b3,b4,b5,f0,f1,f2,f3,f4,f5,hz⟩:=z3d hr
   have:fmtE (d+1) (.mk 8 o a l s [y,z])=opd d y++[32,124,124,32]++opd d z:=rfl
   rw [this] at hl
   have hL:(opd d y).length≤1099511627776:=by simp at hl; omega
   have hM:(opd d z).length≤1099511627776:=by simp at hl; omega
   exact zco o a l s g off c c0 c1 c2 c3 c4 c5 b0 b1 b2 b3 b4 b5 w (opd d y) (opd d z) hL hM e0 e1 e2 e3 e4 e5 f0 f1 f2 f3 f4 f5 (z17 ih hy (hsub y (by simp)) hL) (z17 ih hz (hsub z (by simp)) hM)
  ·have:fmtE (d+1) (.mk 9 o a l s xs)=s.data.toList++lst d xs:=by cases xs with | nil=>rfl | cons a b=>cases b with | nil=>rfl | cons c e=>cases e <;> rfl
   rw [this] at hl ⊢
   have hL:(lst d xs).length≤1099511627776:=by simp at hl; omega
   exact z8x o a l s A xs.length c w (lst d xs) hsz hL (z4v ih rfl hr hsub hn hL)
  ·match xs,hr,h1 with
   | y :: r,hr,_ =>
    obtain ⟨g,off,c0,c1,c2,c3,c4,c5,rfl,e0,e1,e2,e3,e4,e5,hy⟩:=z1P hr
    have hf:fmtE (d+1) (.mk 10 o a l s (y :: r))=(if y.kind=13∨y.kind=2∨y.kind=3 then 40 :: (opd d y++[41]) else opd d y)++lst d r:=by cases r with | nil=>rfl | cons c e=>cases e <;> rfl
    rw [hf] at hl ⊢
    have hL:(opd d y).length≤1099511627776:=by split at hl <;> simp at hl <;> omega
    have hM:(lst d r).length≤1099511627776:=by split at hl <;> simp at hl <;> omega
    cases d with
    | zero=>exact hy.elim
    | succ d =>
     match y,hy,hsub with
     | .mk k1 o1 a1 l1 s1 ys,⟨A1,m1,hv,hr1⟩,hsub =>
      injection hv with hv
      injection hv with hv
      injection hv with h0 hv
      injection hv with h1 hv
      injection hv with h2 hv
      injection hv with h3 hv
      injection hv with h4 hv
      injection hv with h5 _
      subst h0 h1 h2 h3 h4 h5
      refine z7J o a l k1 o1 a1 l1 s s1 A1 ys.length m1 g off c r.length w _ _ _ hL hM hr.1 (by simp at hn; omega) e0 e1 e2 e3 e4 e5 (z17 ih ⟨A1,m1,rfl,hr1⟩ (hsub _ (by simp)) hL) (z4v ih rfl (zbd hr) (fun x hx=>hsub x (by simp [hx])) (by simp at hn; omega) hM) ?_
      by_cases hk:k1=13∨k1=2∨k1=3
      ·exact .inl ⟨hk,by rw [show (Ex.mk k1 o1 a1 l1 s1 ys).kind=k1 from rfl,if_pos hk]⟩
      ·exact .inr ⟨hk,by rw [show (Ex.mk k1 o1 a1 l1 s1 ys).kind=k1 from rfl,if_neg hk]⟩
theorem z8v:∀ d,z63 d
 | 0=>fun _ _ _ _ h=>h.elim
 | d+1=>z8C d (z8v d)
end Go.Proofs.YtkeihncfmbicnaaGreatDoor
namespace Go.Proofs.YtkeihncfmbicnaaGreatDoor
open Go.RowKit
theorem StV.low {F:Nat→Prop} {w w':World} {D:Nat} (hb:Below w.heap.size w w'):∀ (d:Nat) (x:St) (v:Value),StV F w D d x v→StV (fun k=>k<w'.heap.size) w' D d x v
 | 0,_,_,h=>h
 | d+1,.mk k l s es ts us,v,⟨eA,ec,tA,tc,uA,uc,hv,he,⟨h1,h2⟩,h3,h4⟩=>⟨eA,ec,tA,tc,uA,uc,hv,he.low hb,⟨h1,fun i x hi=>by
   obtain ⟨g,off,c0,c1,c2,c3,c4,c5,hA,hF,e0,e1,e2,e3,e4,e5,hx⟩:=h2 i x hi
   exact ⟨g,off,c0,c1,c2,c3,c4,c5,hA,Nat.lt_of_lt_of_le (World.block_lt_of_cell? _ _ e0) hb.size,hold hb e0,hold hb e1,hold hb e2,hold hb e3,hold hb e4,hold hb e5,StV.low hb d x _ hx⟩⟩,h3,fun i x hi=>by
   obtain ⟨g,off,c0,c1,c2,c3,c4,c5,hA,hF,e0,e1,e2,e3,e4,e5,hx⟩:=h4 i x hi
   exact ⟨g,off,c0,c1,c2,c3,c4,c5,hA,Nat.lt_of_lt_of_le (World.block_lt_of_cell? _ _ e0) hb.size,hold hb e0,hold hb e1,hold hb e2,hold hb e3,hold hb e4,hold hb e5,StV.low hb d x _ hx⟩⟩
theorem RowS.low {F:Nat→Prop} {w w':World} {D d:Nat} {ts:List St} {A:Option Addr} {c:Nat} (hb:Below w.heap.size w w') (h:RowS F w D d ts A c):RowS (fun k=>k<w'.heap.size) w' D d ts A c :=
 ⟨h.1,fun i x hi=>by
   obtain ⟨g,off,c0,c1,c2,c3,c4,c5,hA,hF,e0,e1,e2,e3,e4,e5,hx⟩:=h.2 i x hi
   exact ⟨g,off,c0,c1,c2,c3,c4,c5,hA,Nat.lt_of_lt_of_le (World.block_lt_of_cell? _ _ e0) hb.size,hold hb e0,hold hb e1,hold hb e2,hold hb e3,hold hb e4,hold hb e5,StV.low hb d x _ hx⟩⟩
def valL (D:Nat) (es:List Ex) (i:Nat):z04:=match es[i]? with | some x=>fmtE D x | none=>[]
def stL (D:Nat) (B:List St→z04→z04) (ind:z04):St→z04
 | .mk k _ s es tt uu =>
  ind++(if k=1 then [118,97,114,32]++s.data.toList++[32,61,32]++valL D es 0++[59]
   else if k=2 then s.data.toList++[32,61,32]++valL D es 0++[59]
   else if k=3 then s.data.toList++[91]++valL D es 0++[93,32,61,32]++valL D es 1++[59]
   else if k=6 then [114,101,116,117,114,110,32]++valL D es 0++[59]
   else if k=7 then [112,114,105,110,116,32]++valL D es 0++[59]
   else if k=8 then [99,97,108,108,32]++valL D es 0++[59]
   else if k=5 then [119,104,105,108,101,32]++valL D es 0++[32,123,10]++B tt (ind++[9])++ind++[125]
   else if k=4 then [105,102,32]++valL D es 0++[32,123,10]++B tt (ind++[9])++ind++[125]++(if uu.length=0 then [] else [32,101,108,115,101,32,123,10]++B uu (ind++[9])++ind++[125])
   else [])++[10]
def fmtB (D:Nat):Nat→List St→z04→z04
 | 0,_,_=>[]
 | d+1,ts,ind=>ts.flatMap (stL D (fmtB D d) ind)
def ShS (D:Nat):Nat→St→Prop
 | 0,_=>False
 | d+1,.mk k _ s es ts us=>s.size≤1000∧(∀ x∈es,ShE D x)∧(∀ t∈ts,ShS D d t)∧(∀ t∈us,ShS D d t)∧1≤es.length∧es.length≤1000∧ts.length≤1000∧us.length≤1000 ∧
   (k=1∨k=2∨(k=3∧2≤es.length)∨k=6∨k=7∨k=8∨k=5∨k=4)
set_option maxRecDepth 10000 in
set_option maxHeartbeats 1000000 in
theorem zda (D:Nat) (F:Nat→Prop) (k l:Int) (s:ByteArray) (es:List Ex) (eA tA uA:Option Addr) (ec tn tc un uc:Nat) (i:Nat) (w:World) (hr:RowE F w D es eA ec) (hs:∀ x∈es,ShE D x) (hi:i<es.length) (hl:(valL D es i).length≤1099511627776) :
  Calls Tryz.prog 44 #[.agg #[.int .i64 k,.int .i64 l,.string s,.slice eA es.length ec,.slice tA tn tc,.slice uA un uc],.int .i64 (i:Int)] w (z0L (valL D es i) w):=by
 have hb0:=(Below.refl _ w).alloc (Nat.le_refl _) (.cells #[.int .i64 k,.int .i64 l,.string s,.slice eA es.length ec,.slice tA tn tc,.slice uA un uc] 86)
 have Hb0:=zhi hb0
 obtain ⟨x,hx⟩:∃ x,es[i]?=some x:=⟨es[i],List.getElem?_eq_getElem _⟩
 have hv:valL D es i=fmtE D x:=by rw [valL,hx]
 rw [hv] at hl ⊢
 obtain ⟨g,off,c0,c1,c2,c3,c4,c5,rfl,_,e0,e1,e2,e3,e4,e5,hxv⟩:=hr.2 i x hx
 have hec:=hr.1
 have d0:=hold hb0 e0
 have d1:=hold hb0 e1
 have d2:=hold hb0 e2
 have d3:=hold hb0 e3
 have d4:=hold hb0 e4
 have d5:=hold hb0 e5
 have hc:=zhi (z8v D _ x _ _ (ExV.low hb0 D x _ hxv) (hs x (List.mem_of_getElem? hx)) hl)
 obtain ⟨n,hnn⟩:∃ n,n=es.length:=⟨_,rfl⟩
 rw [← hnn] at hi hec hc d0 d1 d2 d3 d4 d5 Hb0 ⊢
 clear hb0 hr hs hl hv hx hxv e0 e1 e2 e3 e4 e5 hnn
 go_enter Tryz.func44,Tryz.ntmps44
 go_wp2_with fail
 refine hc.out.mono ?_
 rintro e w1 ⟨t,rfl,ht,hb⟩
 have Hb:=zhi (z02 Hb0.out hb)
 clear hb
 go_wp2_with fail
 go_ret
 exact z0x ht.out Hb.out
end Go.Proofs.YtkeihncfmbicnaaGreatDoor
namespace Go.Proofs.YtkeihncfmbicnaaGreatDoor
open Go.RowKit
def z6L (D d:Nat):Prop:=∀ (F:Nat→Prop) (ts:List St) (A:Option Addr) (c:Nat) (ind:ByteArray) (w:World),RowS F w D d ts A c→(∀ t∈ts,ShS D d t)→ts.length≤1000→ind.size+d≤100→(fmtB D d ts ind.data.toList).length≤1099511627776→Calls Tryz.prog 26 #[.slice A ts.length c,.string ind] w (z0L (fmtB D d ts ind.data.toList) w)
def zai (w0:World) (f:St→z04) (ts:List St) (s i:Value) (wr:World):Prop :=
 ∃ (k:Nat) (t:ByteArray),k≤ts.length∧s=.string t∧i=.int .i64 (k:Int)∧t.data.toList=(ts.take k).flatMap f∧Below w0.heap.size w0 wr
theorem z4O {α:Type} (f:α→z04) (l:List α) (k:Nat) (x:α) (h:l[k]?=some x):(l.take (k+1)).flatMap f=(l.take k).flatMap f++f x:=by
 have hlt:k<l.length:=by
  rcases Nat.lt_or_ge k l.length with h' | h'
  ·exact h'
  ·rw [List.getElem?_eq_none h'] at h; cases h
 rw [List.getElem?_eq_getElem hlt] at h
 injection h with h
 rw [List.take_succ_eq_append_getElem hlt,List.flatMap_append,h]
 simp
theorem z4P {α:Type} (f:α→z04) (l:List α) (k:Nat):((l.take k).flatMap f).length≤(l.flatMap f).length:=by
 conv=>rhs; rw [← List.take_append_drop k l,List.flatMap_append]
 simp
theorem zbR {α:Type} (f:α→z04) (l:List α) (k:Nat) (x:α) (h:l[k]?=some x):(f x).length≤(l.flatMap f).length:=by
 have h1:=z4P f l (k+1)
 rw [z4O f l k x h,List.length_append] at h1
 omega
theorem z0K {D:Nat} {F:Nat→Prop} {k l:Int} {s:ByteArray} {es:List Ex} {eA tA uA:Option Addr} {ec tn tc un uc:Nat} (i:Nat) (z:Int) (hz:z=(i:Int)) {w:World} (hr:RowE F w D es eA ec) (hs:∀ x∈es,ShE D x) (hi:i<es.length) (hl:(valL D es i).length≤1099511627776) :
  z1g 44 #[.agg #[.int .i64 k,.int .i64 l,.string s,.slice eA es.length ec,.slice tA tn tc,.slice uA un uc],.int .i64 z] (valL D es i) w:=fun w' hb=>by
 subst hz
 exact zda D _ k l s es eA tA uA ec tn tc un uc i w' (hr.low hb) hs hi hl
theorem z1y {D d:Nat} (ih:z6L D d) {F:Nat→Prop} {ts:List St} {A:Option Addr} {c n:Nat} {ind:ByteArray} {w:World} (hn:ts.length=n) (hr:RowS F w D d ts A c) (hs:∀ t∈ts,ShS D d t) (hl:ts.length≤1000) (hi:ind.size+d≤100) (L:z04) (hL:L=ind.data.toList) (ht:(fmtB D d ts L).length≤1099511627776) :
  z1g 26 #[.slice A n c,.string ind] (fmtB D d ts L) w:=fun w' hb=>by
 subst hn hL
 exact ih _ ts A c ind w' (hr.low hb) hs hl hi ht
set_option maxRecDepth 100000 in
set_option maxHeartbeats 8000000 in
theorem z4o (D d:Nat) (ih:∀ d',d=d'+1→z6L D d'):z6L D d:=by
 intro F ts A c ind w hr hs hn hi hl
 obtain ⟨hc,hrow⟩:=hr
 obtain ⟨n,hnn⟩:∃ n,n=ts.length:=⟨_,rfl⟩
 by_cases h0:d=0
 ·subst h0
  have hnil:ts=[]:=by
   cases ts with
   | nil=>rfl
   | cons x r =>
    obtain ⟨g,off,c0,c1,c2,c3,c4,c5,_,_,_,_,_,_,_,_,hx⟩:=hrow 0 x rfl
    exact hx.elim
  subst hnil
  have hL:Hid (([]:z04)=fmtB D 0 [] ind.data.toList):=zhi rfl
  generalize fmtB D 0 [] ind.data.toList=L at *
  show Calls Tryz.prog 26 #[.slice A 0 c,.string ind] w (z0L L w)
  clear hrow hs hn hl hc hnn ih hi
  go_enter Tryz.func26,Tryz.ntmps26
  go_wp2_with fail
  go_loopw [5,6] (fun s i wr=>s=.string { data:=#[] }∧i=.int .i64 0∧wr=w) (fun _ _ _=>0)
  case atStart=>exact ⟨rfl,rfl,rfl⟩
  case round =>
   obtain ⟨rfl,rfl,rfl⟩:=hrel
   go_wp2_with fail
   go_ret
   exact z0x hL.out (Below.refl _ _)
 ·obtain ⟨d',rfl⟩:∃ d',d=d'+1:=⟨d - 1,by omega⟩
  have Ih:=zhi (ih d' rfl)
  have hLL:Hid (fmtB D (d'+1) ts ind.data.toList=ts.flatMap (stL D (fmtB D d') ind.data.toList)):=zhi rfl
  have hl2:(ts.flatMap (stL D (fmtB D d') ind.data.toList)).length≤1099511627776:=hl
  have Hrow:=zhi hrow
  have Hs:=zhi hs
  have Hn:=zhi hnn
  have Hl2:=zhi hl2
  have hn2:n≤1000:=by omega
  have hcn:n≤c:=by omega
  rw [← hnn]
  clear hrow hs hl hl2 ih hn hc hnn h0
  generalize fmtB D (d'+1) ts ind.data.toList=LL at *
  go_enter Tryz.func26,Tryz.ntmps26
  go_wp2_with fail
  go_loopw [5,6] (fun s i wr=>zai w (stL D (fmtB D d') ind.data.toList) ts s i wr) (fun _ i _=>n - (intOf i).toNat)
  case atStart=>exact ⟨0,_,Nat.zero_le _,rfl,rfl,rfl,Below.refl _ _⟩
  case round =>
   obtain ⟨k,t,hk,rfl,rfl,ht,hb⟩:=hrel
   have Ht:=zhi ht
   have Hb:=zhi hb
   have hsz:=hb.size
   have hkn:k≤n:=by rw [Hn.out]; exact hk
   have htz:t.size≤1099511627776:=by
    rw [z0c ht]
    exact Nat.le_trans (z4P _ ts k) Hl2.out
   clear ht hb hk
   by_cases hlt:k<n
   ·obtain ⟨x,hx⟩:∃ x,ts[k]?=some x:=⟨ts[k]'(by rw [← Hn.out]; exact hlt),List.getElem?_eq_getElem _⟩
    obtain ⟨g,off,c0,c1,c2,c3,c4,c5,rfl,_,e0,e1,e2,e3,e4,e5,hxv⟩:=Hrow.out k x hx
    have hfl:=Nat.le_trans (zbR (stL D (fmtB D d') ind.data.toList) ts k x hx) Hl2.out
    have Hsn:=zhi (z4O (stL D (fmtB D d') ind.data.toList) ts k x hx)
    have hsh:=Hs.out x (List.mem_of_getElem? hx)
    match x,hxv,hfl,Hsn,hsh with
    | .mk kd ln s es tt uu,⟨eA,ec,tA,tc,uA,uc,hv,he,htt,huu⟩,hfl,Hsn,⟨hss,hse,hst,hsu,hn1,hn2',hn3,hn4,hkd⟩ =>
    injection hv with hv
    injection hv with hv
    injection hv with v0 hv
    injection hv with v1 hv
    injection hv with v2 hv
    injection hv with v3 hv
    injection hv with v4 hv
    injection hv with v5 _
    subst v0 v1 v2 v3 v4 v5
    have d0:=hold Hb.out e0
    have d1:=hold Hb.out e1
    have d2:=hold Hb.out e2
    have d3:=hold Hb.out e3
    have d4:=hold Hb.out e4
    have d5:=hold Hb.out e5
    have he2:=he.low Hb.out
    have htt2:=RowS.low Hb.out htt
    have huu2:=RowS.low Hb.out huu
    clear e0 e1 e2 e3 e4 e5 he htt huu hx
    rcases hkd with rfl | rfl | ⟨rfl,h2⟩ | rfl | rfl | rfl | rfl | rfl
    ·have hT:stL D (fmtB D d') ind.data.toList (.mk 1 ln s es tt uu)=ind.data.toList++([118,97,114,32]++s.data.toList++[32,61,32]++valL D es 0++[59])++[10]:=rfl
     rw [hT] at hfl
     have Hsn2:=Hsn
     rw [hT] at Hsn2
     have Hi:ind.data.toList.length=ind.size:=by simp
     have hl0:(valL D es 0).length≤1099511627776:=by simp at hfl; omega
     have HG0:=zhi (z0K (k:=1) (l:=ln) (s:=s) (tA:=tA) (tn:=tt.length) (tc:=tc) (uA:=uA) (un:=uu.length) (uc:=uc) 0 0 rfl he2 hse (by omega) hl0)
     clear hse hst hsu he2 htt2 huu2 hfl Hsn hT
     have hb0:=Hb.out.alloc hsz (.cells #[.int .i64 1,.int .i64 ln,.string s,.slice eA es.length ec,.slice tA tt.length tc,.slice uA uu.length uc] 86)
     have Hb0:=zhi hb0
     have hb1:=(Below.refl _ wr).alloc (Nat.le_refl _) (.cells #[.int .i64 1,.int .i64 ln,.string s,.slice eA es.length ec,.slice tA tt.length tc,.slice uA uu.length uc] 86)
     have Hb1:=zhi hb1
     clear hb0 hb1
     have f0:(wr.alloc (.cells #[.int .i64 1,.int .i64 ln,.string s,.slice eA es.length ec,.slice tA tt.length tc,.slice uA uu.length uc] 86)).cell? ⟨wr.heap.size,0,none⟩=some (.int .i64 1):=by rw [cell_of_row _ _ _ _ _ _ (heap_alloc_new wr _)]; rfl
     have f1:(wr.alloc (.cells #[.int .i64 1,.int .i64 ln,.string s,.slice eA es.length ec,.slice tA tt.length tc,.slice uA uu.length uc] 86)).cell? ⟨wr.heap.size,1,none⟩=some (.int .i64 ln):=by rw [cell_of_row _ _ _ _ _ _ (heap_alloc_new wr _)]; rfl
     have f2:(wr.alloc (.cells #[.int .i64 1,.int .i64 ln,.string s,.slice eA es.length ec,.slice tA tt.length tc,.slice uA uu.length uc] 86)).cell? ⟨wr.heap.size,2,none⟩=some (.string s):=by rw [cell_of_row _ _ _ _ _ _ (heap_alloc_new wr _)]; rfl
     have f3:(wr.alloc (.cells #[.int .i64 1,.int .i64 ln,.string s,.slice eA es.length ec,.slice tA tt.length tc,.slice uA uu.length uc] 86)).cell? ⟨wr.heap.size,3,none⟩=some (.slice eA es.length ec):=by rw [cell_of_row _ _ _ _ _ _ (heap_alloc_new wr _)]; rfl
     have f4:(wr.alloc (.cells #[.int .i64 1,.int .i64 ln,.string s,.slice eA es.length ec,.slice tA tt.length tc,.slice uA uu.length uc] 86)).cell? ⟨wr.heap.size,4,none⟩=some (.slice tA tt.length tc):=by rw [cell_of_row _ _ _ _ _ _ (heap_alloc_new wr _)]; rfl
     have f5:(wr.alloc (.cells #[.int .i64 1,.int .i64 ln,.string s,.slice eA es.length ec,.slice tA tt.length tc,.slice uA uu.length uc] 86)).cell? ⟨wr.heap.size,5,none⟩=some (.slice uA uu.length uc):=by rw [cell_of_row _ _ _ _ _ _ (heap_alloc_new wr _)]; rfl
     have HH0:=zhi (HG0.out.next Hb1.out)
     have hq0:=z0f (n:=4+s.size) (m:=4398046511104) (by omega) (by omega)
     have hq1:=z0f (n:=4+s.size+3) (m:=4398046511104) (by omega) (by omega)
     clear HG0
     go_wp2_with fail
     generalize wr.alloc (.cells #[.int .i64 1,.int .i64 ln,.string s,.slice eA es.length ec,.slice tA tt.length tc,.slice uA uu.length uc] 86)=W at *
     have hS0:W.drew.cell? ⟨wr.heap.size,0,none⟩=some (.int .i64 1)∧W.drew.cell? ⟨wr.heap.size,1,none⟩=some (.int .i64 ln)∧W.drew.cell? ⟨wr.heap.size,2,none⟩=some (.string s)∧W.drew.cell? ⟨wr.heap.size,3,none⟩=some (.slice eA es.length ec)∧W.drew.cell? ⟨wr.heap.size,4,none⟩=some (.slice tA tt.length tc)∧W.drew.cell? ⟨wr.heap.size,5,none⟩=some (.slice uA uu.length uc)∧Below W.heap.size W W.drew:=⟨f0,f1,f2,f3,f4,f5,(Below.refl _ W).drew⟩
     go_region_held3 (fun w'=>w'.cell? ⟨wr.heap.size,0,none⟩=some (.int .i64 1)∧w'.cell? ⟨wr.heap.size,1,none⟩=some (.int .i64 ln)∧w'.cell? ⟨wr.heap.size,2,none⟩=some (.string s)∧w'.cell? ⟨wr.heap.size,3,none⟩=some (.slice eA es.length ec)∧w'.cell? ⟨wr.heap.size,4,none⟩=some (.slice tA tt.length tc)∧w'.cell? ⟨wr.heap.size,5,none⟩=some (.slice uA uu.length uc)∧Below W.heap.size W w')
      (first | exact hS0 | (go_split_ands; exact ⟨hold hb (by assumption),hold hb (by assumption),hold hb (by assumption),hold hb (by assumption),hold hb (by assumption),hold hb (by assumption),z02 (by assumption) hb⟩))
      (first | (go_at_call 44; (with_reducible refine (HH0.out.at_ ?_).mono ?_); (go_split_ands; assumption); rintro e w' ⟨t0,rfl,ht0,hb⟩; have hz0:t0.size≤1099511627776:=(by rw [z0c ht0.out]; exact hl0); have hr00:=z0f (n:=4+s.size+3+t0.size) (m:=8796093022208) (by omega) (by omega); have hr01:=z0f (n:=4+s.size+3+t0.size+1) (m:=8796093022208) (by omega) (by omega); have hr02:=z0f (n:=t.size+ind.size+(4+s.size+3+t0.size+1)) (m:=8796093022208) (by omega) (by omega)))
     rename_i hH
     have hbel:Below W.heap.size W _:=hH.2.2.2.2.2.2
     have HB:=zhi (Hb0.out.trans (hbel.mono (Nat.le_trans hsz Hb1.out.size)))
     clear hH hS0 hbel hb f0 f1 f2 f3 f4 f5
     go_wp2_with fail
     exact ⟨⟨k+1,_,by rw [← Hn.out]; omega,rfl,by go_num,by rw [Hsn2.out,← Ht.out,← ht0.out]; simp,HB.out⟩,by simp [intOf]; omega⟩
    ·have hT:stL D (fmtB D d') ind.data.toList (.mk 2 ln s es tt uu)=ind.data.toList++(s.data.toList++[32,61,32]++valL D es 0++[59])++[10]:=rfl
     rw [hT] at hfl
     have Hsn2:=Hsn
     rw [hT] at Hsn2
     have Hi:ind.data.toList.length=ind.size:=by simp
     have hl0:(valL D es 0).length≤1099511627776:=by simp at hfl; omega
     have HG0:=zhi (z0K (k:=2) (l:=ln) (s:=s) (tA:=tA) (tn:=tt.length) (tc:=tc) (uA:=uA) (un:=uu.length) (uc:=uc) 0 0 rfl he2 hse (by omega) hl0)
     clear hse hst hsu he2 htt2 huu2 hfl Hsn hT
     have hb0:=Hb.out.alloc hsz (.cells #[.int .i64 2,.int .i64 ln,.string s,.slice eA es.length ec,.slice tA tt.length tc,.slice uA uu.length uc] 86)
     have Hb0:=zhi hb0
     have hb1:=(Below.refl _ wr).alloc (Nat.le_refl _) (.cells #[.int .i64 2,.int .i64 ln,.string s,.slice eA es.length ec,.slice tA tt.length tc,.slice uA uu.length uc] 86)
     have Hb1:=zhi hb1
     clear hb0 hb1
     have f0:(wr.alloc (.cells #[.int .i64 2,.int .i64 ln,.string s,.slice eA es.length ec,.slice tA tt.length tc,.slice uA uu.length uc] 86)).cell? ⟨wr.heap.size,0,none⟩=some (.int .i64 2):=by rw [cell_of_row _ _ _ _ _ _ (heap_alloc_new wr _)]; rfl
     have f1:(wr.alloc (.cells #[.int .i64 2,.int .i64 ln,.string s,.slice eA es.length ec,.slice tA tt.length tc,.slice uA uu.length uc] 86)).cell? ⟨wr.heap.size,1,none⟩=some (.int .i64 ln):=by rw [cell_of_row _ _ _ _ _ _ (heap_alloc_new wr _)]; rfl
     have f2:(wr.alloc (.cells #[.int .i64 2,.int .i64 ln,.string s,.slice eA es.length ec,.slice tA tt.length tc,.slice uA uu.length uc] 86)).cell? ⟨wr.heap.size,2,none⟩=some (.string s):=by rw [cell_of_row _ _ _ _ _ _ (heap_alloc_new wr _)]; rfl
     have f3:(wr.alloc (.cells #[.int .i64 2,.int .i64 ln,.string s,.slice eA es.length ec,.slice tA tt.length tc,.slice uA uu.length uc] 86)).cell? ⟨wr.heap.size,3,none⟩=some (.slice eA es.length ec):=by rw [cell_of_row _ _ _ _ _ _ (heap_alloc_new wr _)]; rfl
     have f4:(wr.alloc (.cells #[.int .i64 2,.int .i64 ln,.string s,.slice eA es.length ec,.slice tA tt.length tc,.slice uA uu.length uc] 86)).cell? ⟨wr.heap.size,4,none⟩=some (.slice tA tt.length tc):=by rw [cell_of_row _ _ _ _ _ _ (heap_alloc_new wr _)]; rfl
     have f5:(wr.alloc (.cells #[.int .i64 2,.int .i64 ln,.string s,.slice eA es.length ec,.slice tA tt.length tc,.slice uA uu.length uc] 86)).cell? ⟨wr.heap.size,5,none⟩=some (.slice uA uu.length uc):=by rw [cell_of_row _ _ _ _ _ _ (heap_alloc_new wr _)]; rfl
     have HH0:=zhi (HG0.out.next Hb1.out)
     have hq0:=z0f (n:=s.size+3) (m:=4398046511104) (by omega) (by omega)
     clear HG0
     go_wp2_with fail
     generalize wr.alloc (.cells #[.int .i64 2,.int .i64 ln,.string s,.slice eA es.length ec,.slice tA tt.length tc,.slice uA uu.length uc] 86)=W at *
     have hS0:W.drew.cell? ⟨wr.heap.size,0,none⟩=some (.int .i64 2)∧W.drew.cell? ⟨wr.heap.size,1,none⟩=some (.int .i64 ln)∧W.drew.cell? ⟨wr.heap.size,2,none⟩=some (.string s)∧W.drew.cell? ⟨wr.heap.size,3,none⟩=some (.slice eA es.length ec)∧W.drew.cell? ⟨wr.heap.size,4,none⟩=some (.slice tA tt.length tc)∧W.drew.cell? ⟨wr.heap.size,5,none⟩=some (.slice uA uu.length uc)∧Below W.heap.size W W.drew:=⟨f0,f1,f2,f3,f4,f5,(Below.refl _ W).drew⟩
     go_region_held3 (fun w'=>w'.cell? ⟨wr.heap.size,0,none⟩=some (.int .i64 2)∧w'.cell? ⟨wr.heap.size,1,none⟩=some (.int .i64 ln)∧w'.cell? ⟨wr.heap.size,2,none⟩=some (.string s)∧w'.cell? ⟨wr.heap.size,3,none⟩=some (.slice eA es.length ec)∧w'.cell? ⟨wr.heap.size,4,none⟩=some (.slice tA tt.length tc)∧w'.cell? ⟨wr.heap.size,5,none⟩=some (.slice uA uu.length uc)∧Below W.heap.size W w')
      (first | exact hS0 | (go_split_ands; exact ⟨hold hb (by assumption),hold hb (by assumption),hold hb (by assumption),hold hb (by assumption),hold hb (by assumption),hold hb (by assumption),z02 (by assumption) hb⟩))
      (first | (go_at_call 44; (with_reducible refine (HH0.out.at_ ?_).mono ?_); (go_split_ands; assumption); rintro e w' ⟨t0,rfl,ht0,hb⟩; have hz0:t0.size≤1099511627776:=(by rw [z0c ht0.out]; exact hl0); have hr00:=z0f (n:=s.size+3+t0.size) (m:=8796093022208) (by omega) (by omega); have hr01:=z0f (n:=s.size+3+t0.size+1) (m:=8796093022208) (by omega) (by omega); have hr02:=z0f (n:=t.size+ind.size+(s.size+3+t0.size+1)) (m:=8796093022208) (by omega) (by omega)))
     rename_i hH
     have hbel:Below W.heap.size W _:=hH.2.2.2.2.2.2
     have HB:=zhi (Hb0.out.trans (hbel.mono (Nat.le_trans hsz Hb1.out.size)))
     clear hH hS0 hbel hb f0 f1 f2 f3 f4 f5
     go_wp2_with fail
     exact ⟨⟨k+1,_,by rw [← Hn.out]; omega,rfl,by go_num,by rw [Hsn2.out,← Ht.out,← ht0.out]; simp,HB.out⟩,by simp [intOf]; omega⟩
    ·have hT:stL D (fmtB D d') ind.data.toList (.mk 3 ln s es tt uu)=ind.data.toList++(s.data.toList++[91]++valL D es 0++[93,32,61,32]++valL D es 1++[59])++[10]:=rfl
     rw [hT] at hfl
     have Hsn2:=Hsn
     rw [hT] at Hsn2
     have Hi:ind.data.toList.length=ind.size:=by simp
     have hl0:(valL D es 0).length≤1099511627776:=by simp at hfl; omega
     have hl1:(valL D es 1).length≤1099511627776:=by simp at hfl; omega
     have HG0:=zhi (z0K (k:=3) (l:=ln) (s:=s) (tA:=tA) (tn:=tt.length) (tc:=tc) (uA:=uA) (un:=uu.length) (uc:=uc) 0 0 rfl he2 hse (by omega) hl0)
     have HG1:=zhi (z0K (k:=3) (l:=ln) (s:=s) (tA:=tA) (tn:=tt.length) (tc:=tc) (uA:=uA) (un:=uu.length) (uc:=uc) 1 1 rfl he2 hse (by omega) hl1)
     clear hse hst hsu he2 htt2 huu2 hfl Hsn hT
     have hb0:=Hb.out.alloc hsz (.cells #[.int .i64 3,.int .i64 ln,.string s,.slice eA es.length ec,.slice tA tt.length tc,.slice uA uu.length uc] 86)
     have Hb0:=zhi hb0
     have hb1:=(Below.refl _ wr).alloc (Nat.le_refl _) (.cells #[.int .i64 3,.int .i64 ln,.string s,.slice eA es.length ec,.slice tA tt.length tc,.slice uA uu.length uc] 86)
     have Hb1:=zhi hb1
     clear hb0 hb1
     have f0:(wr.alloc (.cells #[.int .i64 3,.int .i64 ln,.string s,.slice eA es.length ec,.slice tA tt.length tc,.slice uA uu.length uc] 86)).cell? ⟨wr.heap.size,0,none⟩=some (.int .i64 3):=by rw [cell_of_row _ _ _ _ _ _ (heap_alloc_new wr _)]; rfl
     have f1:(wr.alloc (.cells #[.int .i64 3,.int .i64 ln,.string s,.slice eA es.length ec,.slice tA tt.length tc,.slice uA uu.length uc] 86)).cell? ⟨wr.heap.size,1,none⟩=some (.int .i64 ln):=by rw [cell_of_row _ _ _ _ _ _ (heap_alloc_new wr _)]; rfl
     have f2:(wr.alloc (.cells #[.int .i64 3,.int .i64 ln,.string s,.slice eA es.length ec,.slice tA tt.length tc,.slice uA uu.length uc] 86)).cell? ⟨wr.heap.size,2,none⟩=some (.string s):=by rw [cell_of_row _ _ _ _ _ _ (heap_alloc_new wr _)]; rfl
     have f3:(wr.alloc (.cells #[.int .i64 3,.int .i64 ln,.string s,.slice eA es.length ec,.slice tA tt.length tc,.slice uA uu.length uc] 86)).cell? ⟨wr.heap.size,3,none⟩=some (.slice eA es.length ec):=by rw [cell_of_row _ _ _ _ _ _ (heap_alloc_new wr _)]; rfl
     have f4:(wr.alloc (.cells #[.int .i64 3,.int .i64 ln,.string s,.slice eA es.length ec,.slice tA tt.length tc,.slice uA uu.length uc] 86)).cell? ⟨wr.heap.size,4,none⟩=some (.slice tA tt.length tc):=by rw [cell_of_row _ _ _ _ _ _ (heap_alloc_new wr _)]; rfl
     have f5:(wr.alloc (.cells #[.int .i64 3,.int .i64 ln,.string s,.slice eA es.length ec,.slice tA tt.length tc,.slice uA uu.length uc] 86)).cell? ⟨wr.heap.size,5,none⟩=some (.slice uA uu.length uc):=by rw [cell_of_row _ _ _ _ _ _ (heap_alloc_new wr _)]; rfl
     have HH0:=zhi (HG0.out.next Hb1.out)
     have HH1:=zhi (HG1.out.next Hb1.out)
     have hq0:=z0f (n:=s.size+1) (m:=4398046511104) (by omega) (by omega)
     clear HG0 HG1
     go_wp2_with fail
     generalize wr.alloc (.cells #[.int .i64 3,.int .i64 ln,.string s,.slice eA es.length ec,.slice tA tt.length tc,.slice uA uu.length uc] 86)=W at *
     have hS0:W.drew.cell? ⟨wr.heap.size,0,none⟩=some (.int .i64 3)∧W.drew.cell? ⟨wr.heap.size,1,none⟩=some (.int .i64 ln)∧W.drew.cell? ⟨wr.heap.size,2,none⟩=some (.string s)∧W.drew.cell? ⟨wr.heap.size,3,none⟩=some (.slice eA es.length ec)∧W.drew.cell? ⟨wr.heap.size,4,none⟩=some (.slice tA tt.length tc)∧W.drew.cell? ⟨wr.heap.size,5,none⟩=some (.slice uA uu.length uc)∧Below W.heap.size W W.drew:=⟨f0,f1,f2,f3,f4,f5,(Below.refl _ W).drew⟩
     go_region_held3 (fun w'=>w'.cell? ⟨wr.heap.size,0,none⟩=some (.int .i64 3)∧w'.cell? ⟨wr.heap.size,1,none⟩=some (.int .i64 ln)∧w'.cell? ⟨wr.heap.size,2,none⟩=some (.string s)∧w'.cell? ⟨wr.heap.size,3,none⟩=some (.slice eA es.length ec)∧w'.cell? ⟨wr.heap.size,4,none⟩=some (.slice tA tt.length tc)∧w'.cell? ⟨wr.heap.size,5,none⟩=some (.slice uA uu.length uc)∧Below W.heap.size W w')
      (first | exact hS0 | (go_split_ands; exact ⟨hold hb (by assumption),hold hb (by assumption),hold hb (by assumption),hold hb (by assumption),hold hb (by assumption),hold hb (by assumption),z02 (by assumption) hb⟩))
      (first | (go_at_call 44; (with_reducible refine (HH0.out.at_ ?_).mono ?_); (go_split_ands; assumption); rintro e w' ⟨t0,rfl,ht0,hb⟩; have hz0:t0.size≤1099511627776:=(by rw [z0c ht0.out]; exact hl0); have hr00:=z0f (n:=s.size+1+t0.size) (m:=8796093022208) (by omega) (by omega); have hr01:=z0f (n:=s.size+1+t0.size+4) (m:=8796093022208) (by omega) (by omega)) | (go_at_call 44; (with_reducible refine (HH1.out.at_ ?_).mono ?_); (go_split_ands; assumption); rintro e w' ⟨t1,rfl,ht1,hb⟩; have hz1:t1.size≤1099511627776:=(by rw [z0c ht1.out]; exact hl1); have hr10:=z0f (n:=s.size+1+t0.size+4+t1.size) (m:=8796093022208) (by omega) (by omega); have hr11:=z0f (n:=s.size+1+t0.size+4+t1.size+1) (m:=8796093022208) (by omega) (by omega); have hr12:=z0f (n:=t.size+ind.size+(s.size+1+t0.size+4+t1.size+1)) (m:=8796093022208) (by omega) (by omega)))
     rename_i hH
     have hbel:Below W.heap.size W _:=hH.2.2.2.2.2.2
     have HB:=zhi (Hb0.out.trans (hbel.mono (Nat.le_trans hsz Hb1.out.size)))
     clear hH hS0 hbel hb f0 f1 f2 f3 f4 f5
     go_wp2_with fail
     exact ⟨⟨k+1,_,by rw [← Hn.out]; omega,rfl,by go_num,by rw [Hsn2.out,← Ht.out,← ht0.out,← ht1.out]; simp,HB.out⟩,by simp [intOf]; omega⟩
    ·have hT:stL D (fmtB D d') ind.data.toList (.mk 6 ln s es tt uu)=ind.data.toList++([114,101,116,117,114,110,32]++valL D es 0++[59])++[10]:=rfl
     rw [hT] at hfl
     have Hsn2:=Hsn
     rw [hT] at Hsn2
     have Hi:ind.data.toList.length=ind.size:=by simp
     have hl0:(valL D es 0).length≤1099511627776:=by simp at hfl; omega
     have HG0:=zhi (z0K (k:=6) (l:=ln) (s:=s) (tA:=tA) (tn:=tt.length) (tc:=tc) (uA:=uA) (un:=uu.length) (uc:=uc) 0 0 rfl he2 hse (by omega) hl0)
     clear hse hst hsu he2 htt2 huu2 hfl Hsn hT
     have hb0:=Hb.out.alloc hsz (.cells #[.int .i64 6,.int .i64 ln,.string s,.slice eA es.length ec,.slice tA tt.length tc,.slice uA uu.length uc] 86)
     have Hb0:=zhi hb0
     have hb1:=(Below.refl _ wr).alloc (Nat.le_refl _) (.cells #[.int .i64 6,.int .i64 ln,.string s,.slice eA es.length ec,.slice tA tt.length tc,.slice uA uu.length uc] 86)
     have Hb1:=zhi hb1
     clear hb0 hb1
     go_wp2_with fail
     refine (HG0.out.at_ Hb1.out).mono ?_
     rintro e w1 ⟨t0,rfl,ht0,hb⟩
     have hz0:t0.size≤1099511627776:=by rw [z0c ht0.out]; exact hl0
     have HB:=zhi (Hb0.out.trans (hb.mono (by simp; omega)))
     clear hb HG0 Hb0 Hb1
     go_wp2_with fail
     exact ⟨⟨k+1,_,by rw [← Hn.out]; omega,rfl,by go_num,by rw [Hsn2.out,← Ht.out,← ht0.out]; simp,HB.out⟩,by simp [intOf]; omega⟩
    ·have hT:stL D (fmtB D d') ind.data.toList (.mk 7 ln s es tt uu)=ind.data.toList++([112,114,105,110,116,32]++valL D es 0++[59])++[10]:=rfl
     rw [hT] at hfl
     have Hsn2:=Hsn
     rw [hT] at Hsn2
     have Hi:ind.data.toList.length=ind.size:=by simp
     have hl0:(valL D es 0).length≤1099511627776:=by simp at hfl; omega
     have HG0:=zhi (z0K (k:=7) (l:=ln) (s:=s) (tA:=tA) (tn:=tt.length) (tc:=tc) (uA:=uA) (un:=uu.length) (uc:=uc) 0 0 rfl he2 hse (by omega) hl0)
     clear hse hst hsu he2 htt2 huu2 hfl Hsn hT
     have hb0:=Hb.out.alloc hsz (.cells #[.int .i64 7,.int .i64 ln,.string s,.slice eA es.length ec,.slice tA tt.length tc,.slice uA uu.length uc] 86)
     have Hb0:=zhi hb0
     have hb1:=(Below.refl _ wr).alloc (Nat.le_refl _) (.cells #[.int .i64 7,.int .i64 ln,.string s,.slice eA es.length ec,.slice tA tt.length tc,.slice uA uu.length uc] 86)
     have Hb1:=zhi hb1
     clear hb0 hb1
     go_wp2_with fail
     refine (HG0.out.at_ Hb1.out).mono ?_
     rintro e w1 ⟨t0,rfl,ht0,hb⟩
     have hz0:t0.size≤1099511627776:=by rw [z0c ht0.out]; exact hl0
     have HB:=zhi (Hb0.out.trans (hb.mono (by simp; omega)))
     clear hb HG0 Hb0 Hb1
     go_wp2_with fail
     exact ⟨⟨k+1,_,by rw [← Hn.out]; omega,rfl,by go_num,by rw [Hsn2.out,← Ht.out,← ht0.out]; simp,HB.out⟩,by simp [intOf]; omega⟩
    ·have hT:stL D (fmtB D d') ind.data.toList (.mk 8 ln s es tt uu)=ind.data.toList++([99,97,108,108,32]++valL D es 0++[59])++[10]:=rfl
     rw [hT] at hfl
     have Hsn2:=Hsn
     rw [hT] at Hsn2
     have Hi:ind.data.toList.length=ind.size:=by simp
     have hl0:(valL D es 0).length≤1099511627776:=by simp at hfl; omega
     have HG0:=zhi (z0K (k:=8) (l:=ln) (s:=s) (tA:=tA) (tn:=tt.length) (tc:=tc) (uA:=uA) (un:=uu.length) (uc:=uc) 0 0 rfl he2 hse (by omega) hl0)
     clear hse hst hsu he2 htt2 huu2 hfl Hsn hT
     have hb0:=Hb.out.alloc hsz (.cells #[.int .i64 8,.int .i64 ln,.string s,.slice eA es.length ec,.slice tA tt.length tc,.slice uA uu.length uc] 86)
     have Hb0:=zhi hb0
     have hb1:=(Below.refl _ wr).alloc (Nat.le_refl _) (.cells #[.int .i64 8,.int .i64 ln,.string s,.slice eA es.length ec,.slice tA tt.length tc,.slice uA uu.length uc] 86)
     have Hb1:=zhi hb1
     clear hb0 hb1
     go_wp2_with fail
     refine (HG0.out.at_ Hb1.out).mono ?_
     rintro e w1 ⟨t0,rfl,ht0,hb⟩
     have hz0:t0.size≤1099511627776:=by rw [z0c ht0.out]; exact hl0
     have HB:=zhi (Hb0.out.trans (hb.mono (by simp; omega)))
     clear hb HG0 Hb0 Hb1
     go_wp2_with fail
     exact ⟨⟨k+1,_,by rw [← Hn.out]; omega,rfl,by go_num,by rw [Hsn2.out,← Ht.out,← ht0.out]; simp,HB.out⟩,by simp [intOf]; omega⟩
    ·have hT:stL D (fmtB D d') ind.data.toList (.mk 5 ln s es tt uu)=ind.data.toList++([119,104,105,108,101,32]++valL D es 0++[32,123,10]++fmtB D d' tt (ind.data.toList++[9])++ind.data.toList++[125])++[10]:=rfl
     rw [hT] at hfl
     have Hsn2:=Hsn
     rw [hT] at Hsn2
     have Hi:ind.data.toList.length=ind.size:=by simp
     have hl0:(valL D es 0).length≤1099511627776:=by simp at hfl; omega
     have HG0:=zhi (z0K (k:=5) (l:=ln) (s:=s) (tA:=tA) (tn:=tt.length) (tc:=tc) (uA:=uA) (un:=uu.length) (uc:=uc) 0 0 rfl he2 hse (by omega) hl0)
     have hl1:(fmtB D d' tt (ind.data.toList++[9])).length≤1099511627776:=by simp at hfl; omega
     have HG1:=zhi (z1y (ind:=ind++{ data:=#[9] }) Ih.out rfl htt2 hst hn3 (by rw [ByteArray.size_append]; show ind.size+1+d'≤100; omega) (ind.data.toList++[9]) (by simp) hl1)
     clear hse hst hsu he2 htt2 huu2 hfl Hsn hT
     have hb0:=Hb.out.alloc hsz (.cells #[.int .i64 5,.int .i64 ln,.string s,.slice eA es.length ec,.slice tA tt.length tc,.slice uA uu.length uc] 86)
     have Hb0:=zhi hb0
     have hb1:=(Below.refl _ wr).alloc (Nat.le_refl _) (.cells #[.int .i64 5,.int .i64 ln,.string s,.slice eA es.length ec,.slice tA tt.length tc,.slice uA uu.length uc] 86)
     have Hb1:=zhi hb1
     clear hb0 hb1
     have f0:(wr.alloc (.cells #[.int .i64 5,.int .i64 ln,.string s,.slice eA es.length ec,.slice tA tt.length tc,.slice uA uu.length uc] 86)).cell? ⟨wr.heap.size,0,none⟩=some (.int .i64 5):=by rw [cell_of_row _ _ _ _ _ _ (heap_alloc_new wr _)]; rfl
     have f1:(wr.alloc (.cells #[.int .i64 5,.int .i64 ln,.string s,.slice eA es.length ec,.slice tA tt.length tc,.slice uA uu.length uc] 86)).cell? ⟨wr.heap.size,1,none⟩=some (.int .i64 ln):=by rw [cell_of_row _ _ _ _ _ _ (heap_alloc_new wr _)]; rfl
     have f2:(wr.alloc (.cells #[.int .i64 5,.int .i64 ln,.string s,.slice eA es.length ec,.slice tA tt.length tc,.slice uA uu.length uc] 86)).cell? ⟨wr.heap.size,2,none⟩=some (.string s):=by rw [cell_of_row _ _ _ _ _ _ (heap_alloc_new wr _)]; rfl
     have f3:(wr.alloc (.cells #[.int .i64 5,.int .i64 ln,.string s,.slice eA es.length ec,.slice tA tt.length tc,.slice uA uu.length uc] 86)).cell? ⟨wr.heap.size,3,none⟩=some (.slice eA es.length ec):=by rw [cell_of_row _ _ _ _ _ _ (heap_alloc_new wr _)]; rfl
     have f4:(wr.alloc (.cells #[.int .i64 5,.int .i64 ln,.string s,.slice eA es.length ec,.slice tA tt.length tc,.slice uA uu.length uc] 86)).cell? ⟨wr.heap.size,4,none⟩=some (.slice tA tt.length tc):=by rw [cell_of_row _ _ _ _ _ _ (heap_alloc_new wr _)]; rfl
     have f5:(wr.alloc (.cells #[.int .i64 5,.int .i64 ln,.string s,.slice eA es.length ec,.slice tA tt.length tc,.slice uA uu.length uc] 86)).cell? ⟨wr.heap.size,5,none⟩=some (.slice uA uu.length uc):=by rw [cell_of_row _ _ _ _ _ _ (heap_alloc_new wr _)]; rfl
     have HH0:=zhi (HG0.out.next Hb1.out)
     have HH1:=zhi (HG1.out.next Hb1.out)
     have hq0:=z0f (n:=ind.size+1) (m:=4398046511104) (by omega) (by omega)
     clear HG0 HG1
     go_wp2_with fail
     generalize wr.alloc (.cells #[.int .i64 5,.int .i64 ln,.string s,.slice eA es.length ec,.slice tA tt.length tc,.slice uA uu.length uc] 86)=W at *
     have hS0:W.drew.cell? ⟨wr.heap.size,0,none⟩=some (.int .i64 5)∧W.drew.cell? ⟨wr.heap.size,1,none⟩=some (.int .i64 ln)∧W.drew.cell? ⟨wr.heap.size,2,none⟩=some (.string s)∧W.drew.cell? ⟨wr.heap.size,3,none⟩=some (.slice eA es.length ec)∧W.drew.cell? ⟨wr.heap.size,4,none⟩=some (.slice tA tt.length tc)∧W.drew.cell? ⟨wr.heap.size,5,none⟩=some (.slice uA uu.length uc)∧Below W.heap.size W W.drew:=⟨f0,f1,f2,f3,f4,f5,(Below.refl _ W).drew⟩
     go_region_held3 (fun w'=>w'.cell? ⟨wr.heap.size,0,none⟩=some (.int .i64 5)∧w'.cell? ⟨wr.heap.size,1,none⟩=some (.int .i64 ln)∧w'.cell? ⟨wr.heap.size,2,none⟩=some (.string s)∧w'.cell? ⟨wr.heap.size,3,none⟩=some (.slice eA es.length ec)∧w'.cell? ⟨wr.heap.size,4,none⟩=some (.slice tA tt.length tc)∧w'.cell? ⟨wr.heap.size,5,none⟩=some (.slice uA uu.length uc)∧Below W.heap.size W w')
      (first | exact hS0 | (go_split_ands; exact ⟨hold hb (by assumption),hold hb (by assumption),hold hb (by assumption),hold hb (by assumption),hold hb (by assumption),hold hb (by assumption),z02 (by assumption) hb⟩))
      (first | (go_at_call 44; (with_reducible refine (HH0.out.at_ ?_).mono ?_); (go_split_ands; assumption); rintro e w' ⟨t0,rfl,ht0,hb⟩; have hz0:t0.size≤1099511627776:=(by rw [z0c ht0.out]; exact hl0); have hr00:=z0f (n:=6+t0.size) (m:=8796093022208) (by omega) (by omega); have hr01:=z0f (n:=6+t0.size+3) (m:=8796093022208) (by omega) (by omega)) | (go_at_call 26; (with_reducible refine (HH1.out.at_ ?_).mono ?_); (go_split_ands; assumption); rintro e w' ⟨t1,rfl,ht1,hb⟩; have hz1:t1.size≤1099511627776:=(by rw [z0c ht1.out]; exact hl1); have hr10:=z0f (n:=6+t0.size+3+t1.size) (m:=8796093022208) (by omega) (by omega); have hr11:=z0f (n:=6+t0.size+3+t1.size+ind.size) (m:=8796093022208) (by omega) (by omega); have hr12:=z0f (n:=6+t0.size+3+t1.size+ind.size+1) (m:=8796093022208) (by omega) (by omega); have hr13:=z0f (n:=t.size+ind.size+(6+t0.size+3+t1.size+ind.size+1)) (m:=8796093022208) (by omega) (by omega)))
     rename_i hH
     have hbel:Below W.heap.size W _:=hH.2.2.2.2.2.2
     have HB:=zhi (Hb0.out.trans (hbel.mono (Nat.le_trans hsz Hb1.out.size)))
     clear hH hS0 hbel hb f0 f1 f2 f3 f4 f5
     go_wp2_with fail
     exact ⟨⟨k+1,_,by rw [← Hn.out]; omega,rfl,by go_num,by rw [Hsn2.out,← Ht.out,← ht0.out,← ht1.out]; simp,HB.out⟩,by simp [intOf]; omega⟩
    ·by_cases hu0:uu.length=0
     ·have hT:stL D (fmtB D d') ind.data.toList (.mk 4 ln s es tt uu)=ind.data.toList++([105,102,32]++valL D es 0++[32,123,10]++fmtB D d' tt (ind.data.toList++[9])++ind.data.toList++[125]++[])++[10]:=by
       show ind.data.toList++([105,102,32]++valL D es 0++[32,123,10]++fmtB D d' tt (ind.data.toList++[9])++ind.data.toList++[125]++(if uu.length=0 then [] else [32,101,108,115,101,32,123,10]++fmtB D d' uu (ind.data.toList++[9])++ind.data.toList++[125]))++[10]=_
       rw [if_pos hu0]
      rw [hT] at hfl
      have Hsn2:=Hsn
      rw [hT] at Hsn2
      have Hi:ind.data.toList.length=ind.size:=by simp
      have hl0:(valL D es 0).length≤1099511627776:=by simp at hfl; omega
      have HG0:=zhi (z0K (k:=4) (l:=ln) (s:=s) (tA:=tA) (tn:=tt.length) (tc:=tc) (uA:=uA) (un:=uu.length) (uc:=uc) 0 0 rfl he2 hse (by omega) hl0)
      have hl1:(fmtB D d' tt (ind.data.toList++[9])).length≤1099511627776:=by simp at hfl; omega
      have HG1:=zhi (z1y (ind:=ind++{ data:=#[9] }) Ih.out rfl htt2 hst hn3 (by rw [ByteArray.size_append]; show ind.size+1+d'≤100; omega) (ind.data.toList++[9]) (by simp) hl1)
      clear hse hst hsu he2 htt2 huu2 hfl Hsn hT
      rw [hu0] at HG0 d5
      have hb0:=Hb.out.alloc hsz (.cells #[.int .i64 4,.int .i64 ln,.string s,.slice eA es.length ec,.slice tA tt.length tc,.slice uA 0 uc] 86)
      have Hb0:=zhi hb0
      have hb1:=(Below.refl _ wr).alloc (Nat.le_refl _) (.cells #[.int .i64 4,.int .i64 ln,.string s,.slice eA es.length ec,.slice tA tt.length tc,.slice uA 0 uc] 86)
      have Hb1:=zhi hb1
      clear hb0 hb1
      have f0:(wr.alloc (.cells #[.int .i64 4,.int .i64 ln,.string s,.slice eA es.length ec,.slice tA tt.length tc,.slice uA 0 uc] 86)).cell? ⟨wr.heap.size,0,none⟩=some (.int .i64 4):=by rw [cell_of_row _ _ _ _ _ _ (heap_alloc_new wr _)]; rfl
      have f1:(wr.alloc (.cells #[.int .i64 4,.int .i64 ln,.string s,.slice eA es.length ec,.slice tA tt.length tc,.slice uA 0 uc] 86)).cell? ⟨wr.heap.size,1,none⟩=some (.int .i64 ln):=by rw [cell_of_row _ _ _ _ _ _ (heap_alloc_new wr _)]; rfl
      have f2:(wr.alloc (.cells #[.int .i64 4,.int .i64 ln,.string s,.slice eA es.length ec,.slice tA tt.length tc,.slice uA 0 uc] 86)).cell? ⟨wr.heap.size,2,none⟩=some (.string s):=by rw [cell_of_row _ _ _ _ _ _ (heap_alloc_new wr _)]; rfl
      have f3:(wr.alloc (.cells #[.int .i64 4,.int .i64 ln,.string s,.slice eA es.length ec,.slice tA tt.length tc,.slice uA 0 uc] 86)).cell? ⟨wr.heap.size,3,none⟩=some (.slice eA es.length ec):=by rw [cell_of_row _ _ _ _ _ _ (heap_alloc_new wr _)]; rfl
      have f4:(wr.alloc (.cells #[.int .i64 4,.int .i64 ln,.string s,.slice eA es.length ec,.slice tA tt.length tc,.slice uA 0 uc] 86)).cell? ⟨wr.heap.size,4,none⟩=some (.slice tA tt.length tc):=by rw [cell_of_row _ _ _ _ _ _ (heap_alloc_new wr _)]; rfl
      have f5:(wr.alloc (.cells #[.int .i64 4,.int .i64 ln,.string s,.slice eA es.length ec,.slice tA tt.length tc,.slice uA 0 uc] 86)).cell? ⟨wr.heap.size,5,none⟩=some (.slice uA 0 uc):=by rw [cell_of_row _ _ _ _ _ _ (heap_alloc_new wr _)]; rfl
      have HH0:=zhi (HG0.out.next Hb1.out)
      have HH1:=zhi (HG1.out.next Hb1.out)
      have hq0:=z0f (n:=ind.size+1) (m:=4398046511104) (by omega) (by omega)
      clear HG0 HG1 hu0
      go_wp2_with fail
      generalize wr.alloc (.cells #[.int .i64 4,.int .i64 ln,.string s,.slice eA es.length ec,.slice tA tt.length tc,.slice uA 0 uc] 86)=W at *
      have hS0:W.drew.cell? ⟨wr.heap.size,0,none⟩=some (.int .i64 4)∧W.drew.cell? ⟨wr.heap.size,1,none⟩=some (.int .i64 ln)∧W.drew.cell? ⟨wr.heap.size,2,none⟩=some (.string s)∧W.drew.cell? ⟨wr.heap.size,3,none⟩=some (.slice eA es.length ec)∧W.drew.cell? ⟨wr.heap.size,4,none⟩=some (.slice tA tt.length tc)∧W.drew.cell? ⟨wr.heap.size,5,none⟩=some (.slice uA 0 uc)∧Below W.heap.size W W.drew:=⟨f0,f1,f2,f3,f4,f5,(Below.refl _ W).drew⟩
      go_region_held3 (fun w'=>w'.cell? ⟨wr.heap.size,0,none⟩=some (.int .i64 4)∧w'.cell? ⟨wr.heap.size,1,none⟩=some (.int .i64 ln)∧w'.cell? ⟨wr.heap.size,2,none⟩=some (.string s)∧w'.cell? ⟨wr.heap.size,3,none⟩=some (.slice eA es.length ec)∧w'.cell? ⟨wr.heap.size,4,none⟩=some (.slice tA tt.length tc)∧w'.cell? ⟨wr.heap.size,5,none⟩=some (.slice uA 0 uc)∧Below W.heap.size W w')
       (first | exact hS0 | (go_split_ands; exact ⟨hold hb (by assumption),hold hb (by assumption),hold hb (by assumption),hold hb (by assumption),hold hb (by assumption),hold hb (by assumption),z02 (by assumption) hb⟩))
       (first | (go_at_call 44; (with_reducible refine (HH0.out.at_ ?_).mono ?_); (go_split_ands; assumption); rintro e w' ⟨t0,rfl,ht0,hb⟩; have hz0:t0.size≤1099511627776:=(by rw [z0c ht0.out]; exact hl0); have hr00:=z0f (n:=3+t0.size) (m:=8796093022208) (by omega) (by omega); have hr01:=z0f (n:=3+t0.size+3) (m:=8796093022208) (by omega) (by omega)) | (go_at_call 26; (with_reducible refine (HH1.out.at_ ?_).mono ?_); (go_split_ands; assumption); rintro e w' ⟨t1,rfl,ht1,hb⟩; have hz1:t1.size≤1099511627776:=(by rw [z0c ht1.out]; exact hl1); have hr10:=z0f (n:=3+t0.size+3+t1.size) (m:=8796093022208) (by omega) (by omega); have hr11:=z0f (n:=3+t0.size+3+t1.size+ind.size) (m:=8796093022208) (by omega) (by omega); have hr12:=z0f (n:=3+t0.size+3+t1.size+ind.size+1) (m:=8796093022208) (by omega) (by omega); have hr13:=z0f (n:=t.size+ind.size+(3+t0.size+3+t1.size+ind.size+1)) (m:=8796093022208) (by omega) (by omega)))
      rename_i hH
      obtain ⟨_,_,_,_,_,g5,hbel⟩:=hH
      have HB:=zhi (Hb0.out.trans (hbel.mono (Nat.le_trans hsz Hb1.out.size)))
      clear hS0 hbel hb f0 f1 f2 f3 f4 f5
      go_wp2_with fail
      exact ⟨⟨k+1,_,by rw [← Hn.out]; omega,rfl,by go_num,by rw [Hsn2.out,← Ht.out,← ht0.out,← ht1.out]; simp,HB.out⟩,by simp [intOf]; omega⟩
     ·have hT:stL D (fmtB D d') ind.data.toList (.mk 4 ln s es tt uu)=ind.data.toList++([105,102,32]++valL D es 0++[32,123,10]++fmtB D d' tt (ind.data.toList++[9])++ind.data.toList++[125]++([32,101,108,115,101,32,123,10]++fmtB D d' uu (ind.data.toList++[9])++ind.data.toList++[125]))++[10]:=by
       show ind.data.toList++([105,102,32]++valL D es 0++[32,123,10]++fmtB D d' tt (ind.data.toList++[9])++ind.data.toList++[125]++(if uu.length=0 then [] else [32,101,108,115,101,32,123,10]++fmtB D d' uu (ind.data.toList++[9])++ind.data.toList++[125]))++[10]=_
       rw [if_neg hu0]
      rw [hT] at hfl
      have Hsn2:=Hsn
      rw [hT] at Hsn2
      have Hi:ind.data.toList.length=ind.size:=by simp
      have hl0:(valL D es 0).length≤1099511627776:=by simp at hfl; omega
      have HG0:=zhi (z0K (k:=4) (l:=ln) (s:=s) (tA:=tA) (tn:=tt.length) (tc:=tc) (uA:=uA) (un:=uu.length) (uc:=uc) 0 0 rfl he2 hse (by omega) hl0)
      have hl1:(fmtB D d' tt (ind.data.toList++[9])).length≤1099511627776:=by simp at hfl; omega
      have HG1:=zhi (z1y (ind:=ind++{ data:=#[9] }) Ih.out rfl htt2 hst hn3 (by rw [ByteArray.size_append]; show ind.size+1+d'≤100; omega) (ind.data.toList++[9]) (by simp) hl1)
      have hl2:(fmtB D d' uu (ind.data.toList++[9])).length≤1099511627776:=by simp at hfl; omega
      have HG2:=zhi (z1y (ind:=ind++{ data:=#[9] }) Ih.out rfl huu2 hsu hn4 (by rw [ByteArray.size_append]; show ind.size+1+d'≤100; omega) (ind.data.toList++[9]) (by simp) hl2)
      have hup:0<uu.length:=by omega
      clear hse hst hsu he2 htt2 huu2 hfl Hsn hT
      have hb0:=Hb.out.alloc hsz (.cells #[.int .i64 4,.int .i64 ln,.string s,.slice eA es.length ec,.slice tA tt.length tc,.slice uA uu.length uc] 86)
      have Hb0:=zhi hb0
      have hb1:=(Below.refl _ wr).alloc (Nat.le_refl _) (.cells #[.int .i64 4,.int .i64 ln,.string s,.slice eA es.length ec,.slice tA tt.length tc,.slice uA uu.length uc] 86)
      have Hb1:=zhi hb1
      clear hb0 hb1
      have f0:(wr.alloc (.cells #[.int .i64 4,.int .i64 ln,.string s,.slice eA es.length ec,.slice tA tt.length tc,.slice uA uu.length uc] 86)).cell? ⟨wr.heap.size,0,none⟩=some (.int .i64 4):=by rw [cell_of_row _ _ _ _ _ _ (heap_alloc_new wr _)]; rfl
      have f1:(wr.alloc (.cells #[.int .i64 4,.int .i64 ln,.string s,.slice eA es.length ec,.slice tA tt.length tc,.slice uA uu.length uc] 86)).cell? ⟨wr.heap.size,1,none⟩=some (.int .i64 ln):=by rw [cell_of_row _ _ _ _ _ _ (heap_alloc_new wr _)]; rfl
      have f2:(wr.alloc (.cells #[.int .i64 4,.int .i64 ln,.string s,.slice eA es.length ec,.slice tA tt.length tc,.slice uA uu.length uc] 86)).cell? ⟨wr.heap.size,2,none⟩=some (.string s):=by rw [cell_of_row _ _ _ _ _ _ (heap_alloc_new wr _)]; rfl
      have f3:(wr.alloc (.cells #[.int .i64 4,.int .i64 ln,.string s,.slice eA es.length ec,.slice tA tt.length tc,.slice uA uu.length uc] 86)).cell? ⟨wr.heap.size,3,none⟩=some (.slice eA es.length ec):=by rw [cell_of_row _ _ _ _ _ _ (heap_alloc_new wr _)]; rfl
      have f4:(wr.alloc (.cells #[.int .i64 4,.int .i64 ln,.string s,.slice eA es.length ec,.slice tA tt.length tc,.slice uA uu.length uc] 86)).cell? ⟨wr.heap.size,4,none⟩=some (.slice tA tt.length tc):=by rw [cell_of_row _ _ _ _ _ _ (heap_alloc_new wr _)]; rfl
      have f5:(wr.alloc (.cells #[.int .i64 4,.int .i64 ln,.string s,.slice eA es.length ec,.slice tA tt.length tc,.slice uA uu.length uc] 86)).cell? ⟨wr.heap.size,5,none⟩=some (.slice uA uu.length uc):=by rw [cell_of_row _ _ _ _ _ _ (heap_alloc_new wr _)]; rfl
      have HH0:=zhi (HG0.out.next Hb1.out)
      have HH1:=zhi (HG1.out.next Hb1.out)
      have HH2:=zhi (HG2.out.next Hb1.out)
      have hq0:=z0f (n:=ind.size+1) (m:=4398046511104) (by omega) (by omega)
      clear HG0 HG1 HG2 hu0
      go_wp2_with fail
      generalize wr.alloc (.cells #[.int .i64 4,.int .i64 ln,.string s,.slice eA es.length ec,.slice tA tt.length tc,.slice uA uu.length uc] 86)=W at *
      have hS0:W.drew.cell? ⟨wr.heap.size,0,none⟩=some (.int .i64 4)∧W.drew.cell? ⟨wr.heap.size,1,none⟩=some (.int .i64 ln)∧W.drew.cell? ⟨wr.heap.size,2,none⟩=some (.string s)∧W.drew.cell? ⟨wr.heap.size,3,none⟩=some (.slice eA es.length ec)∧W.drew.cell? ⟨wr.heap.size,4,none⟩=some (.slice tA tt.length tc)∧W.drew.cell? ⟨wr.heap.size,5,none⟩=some (.slice uA uu.length uc)∧Below W.heap.size W W.drew:=⟨f0,f1,f2,f3,f4,f5,(Below.refl _ W).drew⟩
      go_region_held3 (fun w'=>w'.cell? ⟨wr.heap.size,0,none⟩=some (.int .i64 4)∧w'.cell? ⟨wr.heap.size,1,none⟩=some (.int .i64 ln)∧w'.cell? ⟨wr.heap.size,2,none⟩=some (.string s)∧w'.cell? ⟨wr.heap.size,3,none⟩=some (.slice eA es.length ec)∧w'.cell? ⟨wr.heap.size,4,none⟩=some (.slice tA tt.length tc)∧w'.cell? ⟨wr.heap.size,5,none⟩=some (.slice uA uu.length uc)∧Below W.heap.size W w')
       (first | exact hS0 | (go_split_ands; exact ⟨hold hb (by assumption),hold hb (by assumption),hold hb (by assumption),hold hb (by assumption),hold hb (by assumption),hold hb (by assumption),z02 (by assumption) hb⟩))
       (first | (go_at_call 44; (with_reducible refine (HH0.out.at_ ?_).mono ?_); (go_split_ands; assumption); rintro e w' ⟨t0,rfl,ht0,hb⟩; have hz0:t0.size≤1099511627776:=(by rw [z0c ht0.out]; exact hl0); have hr00:=z0f (n:=3+t0.size) (m:=8796093022208) (by omega) (by omega); have hr01:=z0f (n:=3+t0.size+3) (m:=8796093022208) (by omega) (by omega)) | (go_at_call 26; (with_reducible refine (HH1.out.at_ ?_).mono ?_); (go_split_ands; assumption); rintro e w' ⟨t1,rfl,ht1,hb⟩; have hz1:t1.size≤1099511627776:=(by rw [z0c ht1.out]; exact hl1); have hr10:=z0f (n:=3+t0.size+3+t1.size) (m:=8796093022208) (by omega) (by omega); have hr11:=z0f (n:=3+t0.size+3+t1.size+ind.size) (m:=8796093022208) (by omega) (by omega); have hr12:=z0f (n:=3+t0.size+3+t1.size+ind.size+1) (m:=8796093022208) (by omega) (by omega); have hr13:=z0f (n:=t.size+ind.size+(3+t0.size+3+t1.size+ind.size+1)) (m:=8796093022208) (by omega) (by omega)))
      rename_i hH
      obtain ⟨_,_,_,_,_,g5,hbel⟩:=hH
      have HB:=zhi (Hb0.out.trans (hbel.mono (Nat.le_trans hsz Hb1.out.size)))
      have HBW:=zhi hbel
      have hszW:=Hb1.out.size
      clear hS0 hbel hb f0 f1 f2 f3 f4 f5
      go_wp2_with fail
      refine (HH2.out.at_ HBW.out).mono ?_
      rintro e w5 ⟨t2,rfl,ht2,hb5⟩
      have hz2:t2.size≤1099511627776:=by rw [z0c ht2.out]; exact hl2
      have HB2:=zhi (HB.out.trans (hb5.mono HB.out.size))
      clear hb5 HB
      go_wp2_with fail
      exact ⟨⟨k+1,_,by rw [← Hn.out]; omega,rfl,by go_num,by rw [Hsn2.out,← Ht.out,← ht0.out,← ht1.out,← ht2.out]; simp,HB2.out⟩,by simp [intOf]; omega⟩
   ·obtain rfl:k=n:=by omega
    have HtE:Hid (t.data.toList=ts.flatMap (stL D (fmtB D d') ind.data.toList)):=zhi (by rw [Ht.out,List.take_of_length_le (by rw [← Hn.out]; exact Nat.le_refl _)])
    clear Ht
    go_wp2_with fail
    go_ret
    exact z0x (by rw [hLL.out]; exact HtE.out) Hb.out
theorem z8m (D:Nat):∀ d,z6L D d
 | 0=>z4o D 0 (fun _ h=>by cases h)
 | d+1=>z4o D (d+1) (fun _ h=>by injection h with h; subst h; exact z8m D d)
end Go.Proofs.YtkeihncfmbicnaaGreatDoor
namespace Go.Proofs.YtkeihncfmbicnaaGreatDoor
open Go.RowKit
def fmtG (x:ByteArray × Int):z04:=[103,108,111,98,97,108,32]++x.1.data.toList++(if 0<x.2 then [91]++numL x.2.toNat++[93] else [])++[59,10]
def fmtF (D d:Nat) (f:Fn):z04:=[102,117,110,99,32]++f.name.data.toList++[40]++jl (f.params.map (·.data.toList))++[41,32,123,10]++fmtB D d f.body [9]++[125,10]
def fmtP (D d:Nat) (gl:List (ByteArray × Int)) (fl:List Fn):z04:=gl.flatMap fmtG++fl.flatMap (fmtF D d)
def ShG (x:ByteArray × Int):Prop:=x.1.size≤1000∧x.2<9223372036854775808
def ShF (D d:Nat) (f:Fn):Prop:=f.name.size≤1000∧f.params.length≤1000∧(∀ p∈f.params,p.size≤1000)∧f.body.length≤1000∧∀ t∈f.body,ShS D d t
def FmtG (w0:World) (gl:List (ByteArray × Int)) (s i:Value) (wr:World):Prop :=
 ∃ (k:Nat) (t:ByteArray),k≤gl.length∧s=.string t∧i=.int .i64 (k:Int)∧t.data.toList=(gl.take k).flatMap fmtG∧Below w0.heap.size w0 wr
def FmtF (w0:World) (D d:Nat) (G:z04) (fl:List Fn) (s i:Value) (wr:World):Prop :=
 ∃ (k:Nat) (t:ByteArray),k≤fl.length∧s=.string t∧i=.int .i64 (k:Int)∧t.data.toList=G++(fl.take k).flatMap (fmtF D d)∧Below w0.heap.size w0 wr
def FmtP (w0:World) (T:z04) (ps:List z04) (s i:Value) (wr:World):Prop :=
 ∃ (k:Nat) (t:ByteArray),k≤ps.length∧s=.string t∧i=.int .i64 (k:Int)∧t.data.toList=T++jl (ps.take k)∧Below w0.heap.size w0 wr
theorem z97 (ps:List ByteArray) (h:∀ p∈ps,p.size≤1000) (hl:ps.length≤1000):(jl (ps.map (·.data.toList))).length≤1002000:=by
 have key:∀ ps:List ByteArray,(∀ p∈ps,p.size≤1000)→(jl (ps.map (·.data.toList))).length≤ps.length * 1002:=by
  intro ps
  induction ps with
  | nil=>intro _; simp [jl,List.intercalate]
  | cons a r ih =>
   intro h
   have ha:=h a (by simp)
   have hr:=ih (fun p hp=>h p (by simp [hp]))
   cases r with
   | nil=>simp [jl,List.intercalate]; omega
   | cons b r =>
    have e:jl ((a :: b :: r).map (·.data.toList))=a.data.toList++[44,32]++jl ((b :: r).map (·.data.toList)):=z22 _ _ _ _
    rw [e]
    simp at hr ⊢
    omega
 have:=key ps h
 omega
set_option maxRecDepth 100000 in
set_option maxHeartbeats 4000000 in
theorem z6U (D d:Nat) (F:Nat→Prop) (gl:List (ByteArray × Int)) (fl:List Fn) (gA fA:Option Addr) (gc fc:Nat) (w:World) (hg:z0j F w gl gA gc) (hf:z1f F w D d fl fA fc) (hsg:∀ x∈gl,ShG x) (hsf:∀ f∈fl,ShF D d f) (hgn:gl.length≤1000) (hfn:fl.length≤1000) (hd:d≤50) (hl:(fmtP D d gl fl).length≤1099511627776) :
  Calls Tryz.prog 9 #[.agg #[.slice gA gl.length gc,.slice fA fl.length fc]] w (z0L (fmtP D d gl fl) w):=by
 have hb0:=(Below.refl _ w).alloc (Nat.le_refl _) (.cells #[.slice gA gl.length gc,.slice fA fl.length fc] 29)
 have hlg:(gl.flatMap fmtG).length≤1099511627776:=by
  unfold fmtP at hl
  simp only [List.length_append] at hl
  omega
 have hlf:(fl.flatMap (fmtF D d)).length≤1099511627776:=by
  unfold fmtP at hl
  simp only [List.length_append] at hl
  omega
 have f0:(w.alloc (.cells #[.slice gA gl.length gc,.slice fA fl.length fc] 29)).cell? ⟨w.heap.size,0,none⟩=some (.slice gA gl.length gc):=by rw [cell_of_row _ _ _ _ _ _ (heap_alloc_new w _)]; rfl
 have f1:(w.alloc (.cells #[.slice gA gl.length gc,.slice fA fl.length fc] 29)).cell? ⟨w.heap.size,1,none⟩=some (.slice fA fl.length fc):=by rw [cell_of_row _ _ _ _ _ _ (heap_alloc_new w _)]; rfl
 have HP:Hid (fmtP D d gl fl=gl.flatMap fmtG++fl.flatMap (fmtF D d)):=zhi rfl
 have Hb0:=zhi hb0
 have Hg:=zhi hg
 have Hf:=zhi hf
 have Hsg:=zhi hsg
 have Hsf:=zhi hsf
 have Hlg:=zhi hlg
 have Hlf:=zhi hlf
 generalize fmtP D d gl fl=L at *
 obtain ⟨n,hn⟩:∃ n,n=gl.length:=⟨_,rfl⟩
 obtain ⟨m,hm⟩:∃ m,m=fl.length:=⟨_,rfl⟩
 have Hn:=zhi hn
 have Hm:=zhi hm
 have hgc:n≤gc:=by rw [hn]; exact hg.1
 have hfc:m≤fc:=by rw [hm]; exact hf.1
 rw [← hn] at hgn f0 f1 Hb0 ⊢
 rw [← hm] at hfn f0 f1 Hb0 ⊢
 clear hb0 hg hf hsg hsf hlg hlf hl hn hm
 go_enter Tryz.func9,Tryz.ntmps9
 go_wp2_with fail
 generalize w.alloc (.cells #[.slice gA n gc,.slice fA m fc] 29)=W at *
 go_loopw [3,4] (fun s i wr=>FmtG W gl s i wr) (fun _ i _=>n - (intOf i).toNat)
 case atStart=>exact ⟨0,_,Nat.zero_le _,rfl,rfl,rfl,Below.refl _ _⟩
 case round =>
  obtain ⟨k,t,hk,rfl,rfl,ht,hb⟩:=hrel
  have Ht:=zhi ht
  have Hb:=zhi hb
  have hkn:k≤n:=by rw [Hn.out]; exact hk
  have htz:t.size≤1099511627776:=by
   rw [z0c ht]
   exact Nat.le_trans (z4P _ gl k) Hlg.out
  have g0:=hold hb f0
  have g1:=hold hb f1
  clear ht hb hk
  by_cases hlt:k<n
  ·obtain ⟨x,hx⟩:∃ x,gl[k]?=some x:=⟨gl[k]'(by rw [← Hn.out]; exact hlt),List.getElem?_eq_getElem _⟩
   obtain ⟨g,rfl,_,e0,e1⟩:=Hg.out.2 k x hx
   have Hsn:=zhi (z4O fmtG gl k x hx)
   obtain ⟨hx1,hx2⟩:=Hsg.out x (List.mem_of_getElem? hx)
   have d0:=hold Hb.out (hold Hb0.out e0)
   have d1:=hold Hb.out (hold Hb0.out e1)
   obtain ⟨nm,sz⟩:=x
   simp only [] at d0 d1 hx1 hx2
   clear e0 e1 hx f0 f1
   by_cases h0:0<sz
   ·have HT:Hid (fmtG (nm,sz)=[103,108,111,98,97,108,32]++nm.data.toList++([91]++numL sz.toNat++[93])++[59,10]):=zhi (by
     show _++_++(if 0<sz then _ else _)++_=_
     rw [if_pos h0])
    have hnl:=z0P (n:=sz.toNat) (by omega)
    go_wp2_with fail
    refine (z2k sz.toNat _ _ (by omega) (by omega)).mono ?_
    rintro e w1 ⟨u,rfl,hu,hb1⟩
    have HB:=zhi (z02 Hb.out hb1)
    have huz:u.size≤19:=by rw [z0c hu.out]; exact hnl
    clear hb1 hnl
    go_wp2_with fail
    exact ⟨⟨k+1,_,by rw [← Hn.out]; omega,rfl,by go_num,by rw [Hsn.out,← Ht.out,HT.out,← hu.out]; simp,HB.out⟩,by simp [intOf]; omega⟩
   ·have HT:Hid (fmtG (nm,sz)=[103,108,111,98,97,108,32]++nm.data.toList++[59,10]):=zhi (by
     show _++_++(if 0<sz then _ else _)++_=_
     rw [if_neg h0]
     simp)
    go_wp2_with fail
    exact ⟨⟨k+1,_,by rw [← Hn.out]; omega,rfl,by go_num,by rw [Hsn.out,← Ht.out,HT.out]; simp,Hb.out⟩,by simp [intOf]; omega⟩
  ·obtain rfl:k=n:=by omega
   have HtE:Hid (t.data.toList=gl.flatMap fmtG):=zhi (by rw [Ht.out,List.take_of_length_le (by rw [← Hn.out]; exact Nat.le_refl _)])
   clear Ht
   go_wp2_with fail
   have Hb2:=zhi (z02 Hb0.out Hb.out)
   clear f0 f1 Hb Hb0
   go_loopw [3,5] (fun s i w2=>FmtF wr D d (gl.flatMap fmtG) fl s i w2) (fun _ i _=>m - (intOf i).toNat)
   case atStart=>exact ⟨0,t,Nat.zero_le _,rfl,rfl,by rw [HtE.out]; simp,Below.refl _ _⟩
   case round =>
    obtain ⟨j,t2,hj,rfl,rfl,ht2,hb⟩:=hrel
    have Ht2:=zhi ht2
    have Hb:=zhi hb
    have hjm:j≤m:=by rw [Hm.out]; exact hj
    have ht2z:t2.size≤2199023255552:=by
     rw [z0c ht2,List.length_append]
     have h1:=z4P (fmtF D d) fl j
     have h2:=Hlf.out
     have h3:=Hlg.out
     omega
    have g2:=hold hb g1
    have Hb3:=zhi (z02 Hb2.out hb)
    have hsz:=hb.size
    clear ht2 hb hj
    by_cases hlt2:j<m
    ·obtain ⟨f,hf⟩:∃ f,fl[j]?=some f:=⟨fl[j]'(by rw [← Hm.out]; exact hlt2),List.getElem?_eq_getElem _⟩
     obtain ⟨g,pA,pc,bA,bc,rfl,_,e0,e1,e2,e3,hps,hbody⟩:=Hf.out.2 j f hf
     have Hsn:=zhi (z4O (fmtF D d) fl j f hf)
     have hfl:=Nat.le_trans (zbR (fmtF D d) fl j f hf) Hlf.out
     obtain ⟨hx1,hx2,hx3,hx4,hx5⟩:=Hsf.out f (List.mem_of_getElem? hf)
     have d0:=hold Hb3.out e0
     have d1:=hold Hb3.out e1
     have d2:=hold Hb3.out e2
     have d3:=hold Hb3.out e3
     obtain ⟨fnm,fln,fps,fbd⟩:=f
     simp only [] at d0 d1 d2 d3 hx1 hx2 hx3 hx4 hx5 hps hbody
     have hbl:(fmtB D d fbd [9]).length≤1099511627776:=by
      unfold fmtF at hfl
      simp at hfl
      omega
     have hpl:=z97 fps hx3 hx2
     have hblk:=zhi (z1y (ind:={ data:=#[9] }) (z8m D d) rfl (RowS.low Hb3.out hbody) hx5 hx4 (by show 1+d≤100; omega) [9] rfl hbl)
     have Hps:=zhi hps
     have Hpl:=zhi hpl
     have HT:Hid (fmtF D d ⟨fnm,fln,fps,fbd⟩=[102,117,110,99,32]++fnm.data.toList++[40]++jl (fps.map (·.data.toList))++[41,32,123,10]++fmtB D d fbd [9]++[125,10]):=zhi rfl
     have hpc:fps.length≤pc:=hps.1
     clear e0 e1 e2 e3 hps hbody hf hfl hpl hx3 hx5
     obtain ⟨q,hq⟩:∃ q,q=fps.length:=⟨_,rfl⟩
     have Hq:=zhi hq
     rw [← hq] at hx2 hpc d2
     clear hq
     go_wp2_with fail
     have hw0:=(Below.refl _ wr).alloc (Nat.le_refl _) (.cells #[.string fnm,.int .i64 fln,.slice pA q pc,.slice bA fbd.length bc] 54)
     have Hw0:=zhi hw0
     have p2:(wr.alloc (.cells #[.string fnm,.int .i64 fln,.slice pA q pc,.slice bA fbd.length bc] 54)).cell? ⟨wr.heap.size,2,none⟩=some (.slice pA q pc):=by rw [cell_of_row _ _ _ _ _ _ (heap_alloc_new wr _)]; rfl
     have p3:(wr.alloc (.cells #[.string fnm,.int .i64 fln,.slice pA q pc,.slice bA fbd.length bc] 54)).cell? ⟨wr.heap.size,3,none⟩=some (.slice bA fbd.length bc):=by rw [cell_of_row _ _ _ _ _ _ (heap_alloc_new wr _)]; rfl
     clear hw0 d0 d1 d2 d3
     generalize wr.alloc (.cells #[.string fnm,.int .i64 fln,.slice pA q pc,.slice bA fbd.length bc] 54)=W2 at *
     obtain ⟨T0,hT0⟩:∃ T0:z04,T0=t2.data.toList++([102,117,110,99,32]++fnm.data.toList++[40]):=⟨_,rfl⟩
     have HT0:=zhi hT0
     have hT0z:T0.length≤2199023260000:=by
      rw [hT0]
      have e1:t2.data.toList.length=t2.size:=by simp
      have e2:fnm.data.toList.length=fnm.size:=by simp
      simp only [List.length_append,List.length_cons,List.length_nil]
      omega
     clear hT0
     go_loopw [3,7] (fun s i w2=>FmtP W2 T0 (fps.map (·.data.toList)) s i w2) (fun _ i _=>q - (intOf i).toNat)
     case atStart=>exact ⟨0,_,Nat.zero_le _,rfl,rfl,by rw [HT0.out]; simp [jl,List.intercalate],Below.refl _ _⟩
     case round =>
      obtain ⟨z,t3,hz,rfl,rfl,ht3,hb⟩:=hrel
      have Ht3:=zhi ht3
      have Hb4:=zhi hb
      have hzq:z≤q:=by rw [Hq.out]; simpa using hz
      have ht3z:t3.size≤2199024270000:=by
       rw [z0c ht3,List.length_append]
       have h1:=z6k (fps.map (·.data.toList)) z
       have h2:=Hpl.out
       omega
      have p2b:=hold hb p2
      have p3b:=hold hb p3
      clear ht3 hb hz p2 p3
      by_cases hlz:z<q
      ·obtain ⟨x,hx⟩:∃ x,fps[z]?=some x:=⟨fps[z]'(by rw [← Hq.out]; exact hlz),List.getElem?_eq_getElem _⟩
       obtain ⟨gp,rfl,_,ep⟩:=Hps.out.2 z x hx
       have hxs:x.size≤1002000:=by
        have h1:=(z96 (fps.map (·.data.toList)) z x.data.toList (by simp [hx])).1
        have h2:=Hpl.out
        have e2:x.data.toList.length=x.size:=by simp
        omega
       have Hgt:=zhi (z96 (fps.map (·.data.toList)) z x.data.toList (by simp [hx])).2
       have dp:=hold Hb4.out (hold Hw0.out (hold Hb3.out ep))
       clear ep hx
       by_cases hz0:z=0
       ·have Hg3:Hid (jl ((fps.map (·.data.toList)).take (z+1))=x.data.toList):=zhi (by rw [Hgt.out,if_pos hz0])
        have Ht4:Hid (t3.data.toList=T0):=zhi (by rw [Ht3.out,hz0]; simp [jl,List.intercalate])
        have hk0:¬ 0<z:=by omega
        clear hz0 Hgt Ht3
        go_wp2_with fail
        exact ⟨⟨z+1,_,by simp; rw [← Hq.out]; omega,rfl,by go_num,by rw [Hg3.out,← Ht4.out]; simp,Hb4.out⟩,by simp [intOf]; omega⟩
       ·have Hg3:Hid (jl ((fps.map (·.data.toList)).take (z+1))=jl ((fps.map (·.data.toList)).take z)++[44,32]++x.data.toList):=zhi (by rw [Hgt.out,if_neg hz0])
        have hk0:0<z:=by omega
        clear hz0 Hgt
        go_wp2_with fail
        exact ⟨⟨z+1,_,by simp; rw [← Hq.out]; omega,rfl,by go_num,by rw [Hg3.out,← List.append_assoc,← List.append_assoc,← Ht3.out]; simp,Hb4.out⟩,by simp [intOf]; omega⟩
      ·obtain rfl:z=q:=by omega
       have Ht4:Hid (t3.data.toList=T0++jl (fps.map (·.data.toList))):=zhi (by rw [Ht3.out,List.take_of_length_le (by simp; rw [← Hq.out]; exact Nat.le_refl _)])
       clear Ht3
       go_wp2_with fail
       refine (hblk.out.at_ (z02 Hw0.out Hb4.out)).mono ?_
       rintro e w9 ⟨u,rfl,hu,hb9⟩
       have huz:u.size≤1099511627776:=by rw [z0c hu.out]; exact hbl
       have HB:=zhi (z02 (Hb.out.trans ((z02 Hw0.out Hb4.out).mono hsz)) hb9)
       clear hb9
       go_wp2_with fail
       exact ⟨⟨j+1,_,by rw [← Hm.out]; omega,rfl,by go_num,by rw [Hsn.out,← List.append_assoc,← Ht2.out,HT.out]; simp [Ht4.out,HT0.out,hu.out],HB.out⟩,by simp [intOf]; omega⟩
    ·obtain rfl:j=m:=by omega
     have HtF:Hid (t2.data.toList=L):=zhi (by rw [HP.out,Ht2.out,List.take_of_length_le (by rw [← Hm.out]; exact Nat.le_refl _)])
     clear Ht2
     go_wp2_with fail
     go_ret
     exact z0x HtF.out Hb3.out
end Go.Proofs.YtkeihncfmbicnaaGreatDoor
