/-
  Kmc: PrKind. Walks and laws that the statement's proof is made of. No condition of its own.
-/
import Derived.Test.YtkeihncfmbicnaaGreatDoorKmb
import Derived.Deep.RegionWith
namespace Go.Proofs.YtkeihncfmbicnaaGreatDoor
open Go.RowKit
theorem z12 {n m:Nat} (h:n≤m) (hm:m≤9223372036854775807):(9223372036854775807<n)=False:=by simp; omega
theorem zaw (n:Nat):Lib.decDigits n=numL n:=by
 induction n using Nat.strongRecOn with
 | ind n ih =>
  rw [Lib.decDigits,numL]
  split
  ·rfl
  ·rw [ih (n / 10) (by omega)]
theorem z77 (a:Int) (h0:0≤a) (h1:a<9223372036854775808) (w:World) (h:PowT w):Calls Tryz.prog 41 #[.int .i64 a] w (z0L (numL a.toNat) w):=by
 refine (Tryz.strconv_Itoa a (by omega) (by omega) w h).mono ?_
 rintro e w' ⟨rfl,k,os,rfl⟩
 refine z0x ?_ ⟨rfl,rfl,rfl,by show w.heap.size≤(w.heap++os).size; rw [Array.size_append]; omega,fun j hj=>by show (w.heap++os)[j]?=_; rw [Array.getElem?_append_left hj]⟩
 have hn:¬ a<0:=by omega
 simp [Lib.itoa,hn,zaw]
theorem zdq (g off n c i:Nat) (z:Int) (hz:z=(i:Int)) (k o a l:Int) (s:ByteArray) (A:Option Addr) (m cc:Nat) (w:World) (hi:i<n) (e0:w.cell? ⟨g,off+i * 6,none⟩=some (.int .i64 k)) (e1:w.cell? ⟨g,off+i * 6+1,none⟩=some (.int .i64 o)) (e2:w.cell? ⟨g,off+i * 6+2,none⟩=some (.int .i64 a)) (e3:w.cell? ⟨g,off+i * 6+3,none⟩=some (.int .i64 l)) (e4:w.cell? ⟨g,off+i * 6+4,none⟩=some (.string s)) (e5:w.cell? ⟨g,off+i * 6+5,none⟩=some (.slice A m cc)) :
  Calls Tryz.prog 51 #[.slice (some ⟨g,off,none⟩) n c,.int .i64 z] w (RetV (.agg #[.int .i64 k,.int .i64 o,.int .i64 a,.int .i64 l,.string s,.slice A m cc]) w):=by
 subst hz
 exact zdp g off n c i k o a l s A m cc w hi e0 e1 e2 e3 e4 e5
theorem PrS.drew {F:Nat→Prop} {n:Nat} {x:Ex} {k o a ln:Int} {s:ByteArray} {A:Option Addr} {m c B p b:Nat} {dp:Int} {l:z04} {W w:World} (h:PrS F n x k o a ln s A m c B p b dp l W w):PrS F n x k o a ln s A m c B p b dp l W w.drew:=h.next (Below.refl _ w).drew
structure Kid (F:Nat→Prop) (n:Nat) (y:Ex) (g off i:Nat) (k o a ln:Int) (s:ByteArray) (A:Option Addr) (m c:Nat) (W:World):Prop where
 hg:F g
 e0:W.cell? ⟨g,off+i * 6,none⟩=some (.int .i64 k)
 e1:W.cell? ⟨g,off+i * 6+1,none⟩=some (.int .i64 o)
 e2:W.cell? ⟨g,off+i * 6+2,none⟩=some (.int .i64 a)
 e3:W.cell? ⟨g,off+i * 6+3,none⟩=some (.int .i64 ln)
 e4:W.cell? ⟨g,off+i * 6+4,none⟩=some (.string s)
 e5:W.cell? ⟨g,off+i * 6+5,none⟩=some (.slice A m c)
 ex:ExV F W n y (.agg #[.int .i64 k,.int .i64 o,.int .i64 a,.int .i64 ln,.string s,.slice A m c])
 kd:y.kind=k
theorem z1J {F:Nat→Prop} {w:World} {n i:Nat} {xs:List Ex} {A:Option Addr} {c:Nat} {y:Ex} (h:RowE F w n xs A c) (hx:xs[i]?=some y):∃ g off k o a ln s A' m' c',A=some ⟨g,off,none⟩∧Kid F n y g off i k o a ln s A' m' c' w:=by
 obtain ⟨g,off,k',o,a,ln,s,A',m',c',rfl,hg,e0,e1,e2,e3,e4,e5,hv,hk⟩:=z9M h hx
 exact ⟨g,off,k',o,a,ln,s,A',m',c',rfl,hg,e0,e1,e2,e3,e4,e5,hv,hk⟩
theorem Kid.wk {F:Nat→Prop} {n:Nat} {y:Ex} {g off i:Nat} {k o a ln:Int} {s:ByteArray} {A:Option Addr} {m c:Nat} {W w:World} {B p:Nat} (h:Kid F n y g off i k o a ln s A m c W) (hF:∀ q,F q→q<B) (hk:Wk B p W w):Kid F n y g off i k o a ln s A m c w:=by
 have hh:∀ (j:Nat) (v:Value),W.cell? ⟨g,j,none⟩=some v→w.cell? ⟨g,j,none⟩=some v:=fun j v hv=>(World.cell?_of_block (hk.bel.block g (hF g h.hg))).trans hv
 exact ⟨h.hg,hh _ _ h.e0,hh _ _ h.e1,hh _ _ h.e2,hh _ _ h.e3,hh _ _ h.e4,hh _ _ h.e5,ExV.wk h.ex hF hk,h.kd⟩
theorem Kid.at_ {F:Nat→Prop} {n:Nat} {y:Ex} {g off i:Nat} {k o a ln:Int} {s:ByteArray} {A:Option Addr} {m c:Nat} {w:World} (h:Kid F n y g off i k o a ln s A m c w) (N cc:Nat) (z:Int) (hz:z=(i:Int)) (hi:i<N) :
  Calls Tryz.prog 51 #[.slice (some ⟨g,off,none⟩) N cc,.int .i64 z] w (RetV (.agg #[.int .i64 k,.int .i64 o,.int .i64 a,.int .i64 ln,.string s,.slice A m c]) w) :=
 zdq g off N cc i z hz k o a ln s A m c w hi h.e0 h.e1 h.e2 h.e3 h.e4 h.e5
theorem z7k {F:Nat→Prop} {W w:World} {n:Nat} {xs:List Ex} {A:Option Addr} {c B p:Nat} (h:RowE F W n xs A c) (hF:∀ q,F q→q<B) (hk:Wk B p W w):RowE F w n xs A c:=h.keep (fun _ h=>h) (fun q hq=>hk.bel.block q (hF q hq))
theorem zbf {F:Nat→Prop} {w:World} {n:Nat} {y:Ex} {xs:List Ex} {g off c:Nat} (h:RowE F w n (y :: xs) (some ⟨g,off,none⟩) c):RowE F w n xs (some ⟨g,off+6,none⟩) (c - 1):=by
 obtain ⟨h1,h2⟩:=h
 refine ⟨by simp at h1; omega,fun i x hx=>?_⟩
 obtain ⟨g',off',c0,c1,c2,c3,c4,c5,hA,hg,e0,e1,e2,e3,e4,e5,hv⟩:=h2 (i+1) x (by simpa using hx)
 injection hA with hA
 injection hA with q1 q2 _
 subst q1 q2
 have e:off+(i+1) * 6=off+6+i * 6:=by omega
 rw [e] at e0 e1 e2 e3 e4 e5
 exact ⟨g,off+6,c0,c1,c2,c3,c4,c5,rfl,hg,e0,e1,e2,e3,e4,e5,hv⟩
theorem zcC {c:Prop} [Decidable c] {a b:z04} {n:Nat} (ha:a.length≤n) (hb:b.length≤n):(if c then a else b).length≤n:=by split <;> assumption
theorem z3f (k o:Int):(sgnK k o).length≤2:=by
 unfold sgnK z0U
 repeat (refine zcC (by decide) ?_)
 decide
theorem z4I {t:ByteArray} {l:z04} (h:t.size≤2) (hl:l.length≤1099511627776):l.length+(⟨#[32]⟩++t++⟨#[32]⟩:ByteArray).size≤2199023255552:=by
 have:(⟨#[32]⟩++t++⟨#[32]⟩:ByteArray).size=1+t.size+1:=by rw [ByteArray.size_append,ByteArray.size_append]; rfl
 omega
-- KINDS
set_option linter.unusedSimpArgs false in
set_option maxRecDepth 100000 in
set_option maxHeartbeats 2000000 in
theorem z9D (F:Nat→Prop) (n:Nat) (x:Ex) (o a ln:Int) (s:ByteArray) (A:Option Addr) (m c B p:Nat) (dp:Int) (l:z04) (W:World) (hx:ExV F W n x (.agg #[.int .i64 13,.int .i64 o,.int .i64 a,.int .i64 ln,.string s,.slice A m c])) (hF:∀ q,F q→q<B) (hw:Wri B p dp l W) (hl:l.length+((s.data.toList:z04)).length≤1099511627776) :
  Calls Tryz.prog 30 #[.pointer (some ⟨p,0,none⟩),.agg #[.int .i64 13,.int .i64 o,.int .i64 a,.int .i64 ln,.string s,.slice A m c]] W (z1r (.tuple #[]) B p dp (l++s.data.toList) W):=by
 try simp only [List.length_append,List.length_cons,List.length_nil] at hl
 have hSa:=Nat.le_of_eq (Lib.size_eq s)
 have hSb:=Nat.le_of_eq (Lib.size_eq s).symm
 have hL:l.length≤1099511627776:=by omega
 have h0:=PrS.box hw hx hF
 have H0:=zhi h0
 obtain ⟨j0,j1,j2,j3,j4,j5⟩:=h0.cells
 clear h0 hx hF hw
 go_enter Tryz.func30,Tryz.ntmps30
 go_upto_region 1 with fail
 generalize W.alloc (.cells #[.int .i64 13,.int .i64 o,.int .i64 a,.int .i64 ln,.string s,.slice A m c] 37)=W1 at *
 generalize W.heap.size=q at *
 have HC:=zhi (z0v H0.out.drew.wri s (by omega))
 go_upto_region 7 with fail
 go_still_tail 5,(by kernel_rfl)
 change wpList _ _ _ _ _ W1.drew
 go_wp2_with fail
 refine HC.out.mono ?_
 rintro e w3 ⟨rfl,hw3,hk3⟩
 have H3:=zhi (H0.out.drew.wrote hw3.out hk3.out)
 clear hk3 HC H0
 go_wp2_with fail
 go_end0
 exact ⟨rfl,hw3,zhi H3.out.wk⟩
set_option linter.unusedSimpArgs false in
set_option maxRecDepth 100000 in
set_option maxHeartbeats 2000000 in
theorem zb6 (F:Nat→Prop) (n:Nat) (x:Ex) (o a ln:Int) (s:ByteArray) (A:Option Addr) (m c B p:Nat) (dp:Int) (l:z04) (W:World) (hx:ExV F W n x (.agg #[.int .i64 2,.int .i64 o,.int .i64 a,.int .i64 ln,.string s,.slice A m c])) (hF:∀ q,F q→q<B) (hw:Wri B p dp l W) (hl:l.length+((s.data.toList:z04)).length≤1099511627776) :
  Calls Tryz.prog 30 #[.pointer (some ⟨p,0,none⟩),.agg #[.int .i64 2,.int .i64 o,.int .i64 a,.int .i64 ln,.string s,.slice A m c]] W (z1r (.tuple #[]) B p dp (l++s.data.toList) W):=by
 try simp only [List.length_append,List.length_cons,List.length_nil] at hl
 have hSa:=Nat.le_of_eq (Lib.size_eq s)
 have hSb:=Nat.le_of_eq (Lib.size_eq s).symm
 have hL:l.length≤1099511627776:=by omega
 have h0:=PrS.box hw hx hF
 have H0:=zhi h0
 obtain ⟨j0,j1,j2,j3,j4,j5⟩:=h0.cells
 clear h0 hx hF hw
 go_enter Tryz.func30,Tryz.ntmps30
 go_upto_region 1 with fail
 generalize W.alloc (.cells #[.int .i64 2,.int .i64 o,.int .i64 a,.int .i64 ln,.string s,.slice A m c] 37)=W1 at *
 generalize W.heap.size=q at *
 have HC:=zhi (z0v H0.out.drew.wri s (by omega))
 go_upto_region 7 with fail
 go_still_tail 5,(by kernel_rfl)
 change wpList _ _ _ _ _ W1.drew
 go_wp2_with fail
 refine HC.out.mono ?_
 rintro e w3 ⟨rfl,hw3,hk3⟩
 have H3:=zhi (H0.out.drew.wrote hw3.out hk3.out)
 clear hk3 HC H0
 go_wp2_with fail
 go_end0
 exact ⟨rfl,hw3,zhi H3.out.wk⟩
set_option linter.unusedSimpArgs false in
set_option maxRecDepth 100000 in
set_option maxHeartbeats 2000000 in
theorem zb7 (F:Nat→Prop) (n:Nat) (x:Ex) (o a ln:Int) (s:ByteArray) (A:Option Addr) (m c B p:Nat) (dp:Int) (l:z04) (W:World) (hx:ExV F W n x (.agg #[.int .i64 3,.int .i64 o,.int .i64 a,.int .i64 ln,.string s,.slice A m c])) (hF:∀ q,F q→q<B) (hw:Wri B p dp l W) (hl:l.length+((s.data.toList:z04)).length≤1099511627776) :
  Calls Tryz.prog 30 #[.pointer (some ⟨p,0,none⟩),.agg #[.int .i64 3,.int .i64 o,.int .i64 a,.int .i64 ln,.string s,.slice A m c]] W (z1r (.tuple #[]) B p dp (l++s.data.toList) W):=by
 try simp only [List.length_append,List.length_cons,List.length_nil] at hl
 have hSa:=Nat.le_of_eq (Lib.size_eq s)
 have hSb:=Nat.le_of_eq (Lib.size_eq s).symm
 have hL:l.length≤1099511627776:=by omega
 have h0:=PrS.box hw hx hF
 have H0:=zhi h0
 obtain ⟨j0,j1,j2,j3,j4,j5⟩:=h0.cells
 clear h0 hx hF hw
 go_enter Tryz.func30,Tryz.ntmps30
 go_upto_region 1 with fail
 generalize W.alloc (.cells #[.int .i64 3,.int .i64 o,.int .i64 a,.int .i64 ln,.string s,.slice A m c] 37)=W1 at *
 generalize W.heap.size=q at *
 have HC:=zhi (z0v H0.out.drew.wri s (by omega))
 go_upto_region 7 with fail
 go_still_tail 5,(by kernel_rfl)
 change wpList _ _ _ _ _ W1.drew
 go_wp2_with fail
 refine HC.out.mono ?_
 rintro e w3 ⟨rfl,hw3,hk3⟩
 have H3:=zhi (H0.out.drew.wrote hw3.out hk3.out)
 clear hk3 HC H0
 go_wp2_with fail
 go_end0
 exact ⟨rfl,hw3,zhi H3.out.wk⟩
set_option linter.unusedSimpArgs false in
set_option maxRecDepth 100000 in
set_option maxHeartbeats 2000000 in
theorem zcN (F:Nat→Prop) (n:Nat) (x:Ex) (o a ln:Int) (s:ByteArray) (A:Option Addr) (m c B p:Nat) (dp:Int) (l:z04) (W:World) (hx:ExV F W n x (.agg #[.int .i64 1,.int .i64 o,.int .i64 a,.int .i64 ln,.string s,.slice A m c])) (hF:∀ q,F q→q<B) (hw:Wri B p dp l W) (h0:0≤a) (h1:a<9223372036854775808) (hl:l.length+((numL a.toNat:z04)).length≤1099511627776) :
  Calls Tryz.prog 30 #[.pointer (some ⟨p,0,none⟩),.agg #[.int .i64 1,.int .i64 o,.int .i64 a,.int .i64 ln,.string s,.slice A m c]] W (z1r (.tuple #[]) B p dp (l++numL a.toNat) W):=by
 try simp only [List.length_append,List.length_cons,List.length_nil] at hl
 have hSa:=Nat.le_of_eq (Lib.size_eq s)
 have hSb:=Nat.le_of_eq (Lib.size_eq s).symm
 have hL:l.length≤1099511627776:=by omega
 have hnl:=z0P (n:=a.toNat) (by omega)
 have HA:=zhi h0
 have HA1:=zhi h1
 clear h0 h1
 have h0:=PrS.box hw hx hF
 have H0:=zhi h0
 obtain ⟨j0,j1,j2,j3,j4,j5⟩:=h0.cells
 clear h0 hx hF hw
 go_enter Tryz.func30,Tryz.ntmps30
 go_upto_region 1 with fail
 generalize W.alloc (.cells #[.int .i64 1,.int .i64 o,.int .i64 a,.int .i64 ln,.string s,.slice A m c] 37)=W1 at *
 generalize W.heap.size=q at *
 have HC:=zhi (z77 a HA.out HA1.out W1.drew H0.out.drew.wri.tab)
 go_upto_region 3 with fail
 have HN:=zhi hnl
 clear hnl
 go_region_with
  (first
   | (
     go_at_call 41
     refine HC.out.mono ?_
     rintro e w2 ⟨t,rfl,ht,hb2⟩
     have H2:=zhi (H0.out.drew.next hb2)
     have hsz:t.size≤19:=Nat.le_trans (Nat.le_of_eq (z0c ht.out)) HN.out
     have HD:=zhi (z0v H2.out.wri t (Nat.le_trans (Nat.add_le_add hL hsz) (by decide)))
     clear hb2)
   | (
     go_at_call 50
     refine HD.out.mono ?_
     rintro e w3 ⟨rfl,hw3,hk3⟩
     have H3:=zhi (H2.out.wrote hw3.out hk3.out)
     clear hk3))
 all_goals
  go_wp2_with fail
  go_end0
  exact ⟨rfl,zhi (by rw [← ht.out]; exact hw3.out),zhi H3.out.wk⟩
set_option linter.unusedSimpArgs false in
set_option maxRecDepth 100000 in
set_option maxHeartbeats 2000000 in
theorem z9E (F:Nat→Prop) (n:Nat) (x:Ex) (o a ln:Int) (s:ByteArray) (A:Option Addr) (m c B p:Nat) (dp:Int) (l:z04) (W:World) (hx:ExV F W n x (.agg #[.int .i64 12,.int .i64 o,.int .i64 a,.int .i64 ln,.string s,.slice A m c])) (hF:∀ q,F q→q<B) (hw:Wri B p dp l W) (hl:l.length+(([114,101,97,100]:z04)).length≤1099511627776) :
  Calls Tryz.prog 30 #[.pointer (some ⟨p,0,none⟩),.agg #[.int .i64 12,.int .i64 o,.int .i64 a,.int .i64 ln,.string s,.slice A m c]] W (z1r (.tuple #[]) B p dp (l++[114,101,97,100]) W):=by
 try simp only [List.length_append,List.length_cons,List.length_nil] at hl
 have hSa:=Nat.le_of_eq (Lib.size_eq s)
 have hSb:=Nat.le_of_eq (Lib.size_eq s).symm
 have hL:l.length≤1099511627776:=by omega
 have h0:=PrS.box hw hx hF
 have H0:=zhi h0
 obtain ⟨j0,j1,j2,j3,j4,j5⟩:=h0.cells
 clear h0 hx hF hw
 go_enter Tryz.func30,Tryz.ntmps30
 go_upto_region 1 with fail
 generalize W.alloc (.cells #[.int .i64 12,.int .i64 o,.int .i64 a,.int .i64 ln,.string s,.slice A m c] 37)=W1 at *
 generalize W.heap.size=q at *
 have HC:=zhi (z0v H0.out.wri ⟨#[114,101,97,100]⟩ (by have:(⟨#[114,101,97,100]⟩:ByteArray).size=4:=rfl; omega))
 go_wp2_with fail
 refine HC.out.mono ?_
 rintro e w3 ⟨rfl,hw3,hk3⟩
 have H3:=zhi (H0.out.wrote hw3.out hk3.out)
 clear hk3 HC H0
 go_wp2_with fail
 go_end0
 exact ⟨rfl,hw3,zhi H3.out.wk⟩
set_option linter.unusedSimpArgs false in
set_option maxRecDepth 100000 in
set_option maxHeartbeats 2000000 in
theorem z9C (F:Nat→Prop) (n:Nat) (x:Ex) (o a ln:Int) (s:ByteArray) (A:Option Addr) (m c B p:Nat) (dp:Int) (l:z04) (W:World) (hx:ExV F W n x (.agg #[.int .i64 11,.int .i64 o,.int .i64 a,.int .i64 ln,.string s,.slice A m c])) (hF:∀ q,F q→q<B) (hw:Wri B p dp l W) (hs:s.size≤1000) (hl:l.length+((38 :: s.data.toList:z04)).length≤1099511627776) :
  Calls Tryz.prog 30 #[.pointer (some ⟨p,0,none⟩),.agg #[.int .i64 11,.int .i64 o,.int .i64 a,.int .i64 ln,.string s,.slice A m c]] W (z1r (.tuple #[]) B p dp (l++38 :: s.data.toList) W):=by
 try simp only [List.length_append,List.length_cons,List.length_nil] at hl
 have hSa:=Nat.le_of_eq (Lib.size_eq s)
 have hSb:=Nat.le_of_eq (Lib.size_eq s).symm
 have hL:l.length≤1099511627776:=by omega
 have h0:=PrS.box hw hx hF
 have H0:=zhi h0
 obtain ⟨j0,j1,j2,j3,j4,j5⟩:=h0.cells
 clear h0 hx hF hw
 go_enter Tryz.func30,Tryz.ntmps30
 go_upto_region 1 with fail
 generalize W.alloc (.cells #[.int .i64 11,.int .i64 o,.int .i64 a,.int .i64 ln,.string s,.slice A m c] 37)=W1 at *
 generalize W.heap.size=q at *
 have hz:(⟨#[38]⟩++s:ByteArray).size=1+s.size:=by rw [ByteArray.size_append]; rfl
 have HC:=zhi (z0v H0.out.drew.wri (⟨#[38]⟩++s) (by omega))
 have hq:=z12 (n:=1+s.size) (m:=1001) (by omega) (by omega)
 clear hz
 go_upto_region 11 with fail
 go_still_tail 6,(by kernel_rfl)
 change wpList _ _ _ _ _ W1.drew
 go_wp2_with fail
 refine HC.out.mono ?_
 rintro e w3 ⟨rfl,hw3,hk3⟩
 have H3:=zhi (H0.out.drew.wrote hw3.out hk3.out)
 clear hk3 HC H0
 go_wp2_with fail
 go_end0
 exact ⟨rfl,zhi (by simpa using hw3.out),zhi H3.out.wk⟩
set_option linter.unusedSimpArgs false in
set_option maxRecDepth 100000 in
set_option maxHeartbeats 2000000 in
theorem zb5 {n:Nat} (ih:PrC n) (F:Nat→Prop) (N:Nat) (x y:Ex) (o a ln:Int) (s:ByteArray) (g off c B p:Nat) (dp:Int) (l:z04) (W:World) (k1 o1 a1 l1:Int) (s1:ByteArray) (A1:Option Addr) (m1 c1:Nat) (hx:ExV F W N x (.agg #[.int .i64 4,.int .i64 o,.int .i64 a,.int .i64 ln,.string s,.slice (some ⟨g,off,none⟩) 1 c])) (hF:∀ q,F q→q<B) (hw:Wri B p dp l W) (hy:Kid F n y g off 0 k1 o1 a1 l1 s1 A1 m1 c1 W) (hs:s.size≤1000) (hsy:ShP n y) (hl:l.length+(((s.data.toList++91 :: (fmtE n y++[93])):z04)).length≤1099511627776) :
  Calls Tryz.prog 30 #[.pointer (some ⟨p,0,none⟩),.agg #[.int .i64 4,.int .i64 o,.int .i64 a,.int .i64 ln,.string s,.slice (some ⟨g,off,none⟩) 1 c]] W (z1r (.tuple #[]) B p dp (l++(s.data.toList++91 :: (fmtE n y++[93]))) W):=by
 try simp only [List.length_append,List.length_cons,List.length_nil] at hl
 have hSa:=Nat.le_of_eq (Lib.size_eq s)
 have hSb:=Nat.le_of_eq (Lib.size_eq s).symm
 have hL:l.length≤1099511627776:=by omega
 have HY:=zhi hy
 have HF:=zhi hF
 have HS:=zhi hsy
 have Ih:=zhi ih
 clear hy hsy ih
 have h0:=PrS.box hw hx hF
 have H0:=zhi h0
 obtain ⟨j0,j1,j2,j3,j4,j5⟩:=h0.cells
 clear h0 hx hF hw
 go_enter Tryz.func30,Tryz.ntmps30
 go_upto_region 1 with fail
 generalize W.alloc (.cells #[.int .i64 4,.int .i64 o,.int .i64 a,.int .i64 ln,.string s,.slice (some ⟨g,off,none⟩) 1 c] 37)=W1 at *
 generalize W.heap.size=q at *
 have hz:(s++⟨#[91]⟩:ByteArray).size=s.size+1:=by rw [ByteArray.size_append]; rfl
 have HC:=zhi (z0v H0.out.drew.wri (s++⟨#[91]⟩) (by omega))
 have hq:=z12 (n:=s.size+1) (m:=1001) (by omega) (by omega)
 clear hz
 go_upto_region 13 with fail
 go_still_tail 6,(by kernel_rfl)
 change wpList _ _ _ _ _ W1.drew
 go_wp2_with fail
 refine HC.out.mono ?_
 rintro e w3 ⟨rfl,hw3,hk3⟩
 have H3:=zhi (H0.out.drew.wrote hw3.out hk3.out)
 have HA:=zhi ((HY.out.wk HF.out H3.out.wk).at_ 1 c 0 rfl (by decide))
 obtain ⟨i0,i1,i2,i3,i4,i5⟩:=H3.out.cells
 clear hw3 hk3 HC H0 j0 j1 j2 j3 j4 j5
 go_wp2_with fail
 refine HA.out.mono ?_
 rintro e w4 ⟨rfl,hb4⟩
 have H4:=zhi (H3.out.next hb4)
 have HX:=zhi (Ih.out F y _ B p dp _ w4 (HY.out.wk HF.out H4.out.wk).ex HF.out HS.out H4.out.wri (by rw [List.length_append,← Lib.size_eq,ByteArray.size_append]; have:(⟨#[91]⟩:ByteArray).size=1:=rfl; omega))
 clear hb4 HA H3 i0 i1 i2 i3 i4 i5
 go_wp2_with fail
 refine HX.out.mono ?_
 rintro e w5 ⟨rfl,hw5,hk5⟩
 have H5:=zhi (H4.out.wrote hw5.out hk5.out)
 have HD:=zhi (z0v H5.out.wri ⟨#[93]⟩ (by rw [List.length_append,List.length_append,← Lib.size_eq,ByteArray.size_append]; have:(⟨#[91]⟩:ByteArray).size=1:=rfl; have:(⟨#[93]⟩:ByteArray).size=1:=rfl; omega))
 clear hw5 hk5 HX H4
 go_wp2_with fail
 refine HD.out.mono ?_
 rintro e w6 ⟨rfl,hw6,hk6⟩
 have H6:=zhi (H5.out.wrote hw6.out hk6.out)
 clear hk6 HD H5
 go_wp2_with fail
 go_end0
 exact ⟨rfl,zhi (by simpa using hw6.out),zhi H6.out.wk⟩
set_option linter.unusedSimpArgs false in
set_option maxRecDepth 100000 in
set_option maxHeartbeats 2000000 in
theorem z9F {n:Nat} (ih:PrC n) (F:Nat→Prop) (N:Nat) (x y:Ex) (o a ln:Int) (s:ByteArray) (g off c B p:Nat) (dp:Int) (l:z04) (W:World) (k1 o1 a1 l1:Int) (s1:ByteArray) (A1:Option Addr) (m1 c1:Nat) (hx:ExV F W N x (.agg #[.int .i64 5,.int .i64 o,.int .i64 a,.int .i64 ln,.string s,.slice (some ⟨g,off,none⟩) 1 c])) (hF:∀ q,F q→q<B) (hw:Wri B p dp l W) (hy:Kid F n y g off 0 k1 o1 a1 l1 s1 A1 m1 c1 W) (ho:0≤o) (ho2:o≤11) (hsy:ShP n y) (hl:l.length+(((z0U o++opk n (z0l k1) y):z04)).length≤1099511627776) :
  Calls Tryz.prog 30 #[.pointer (some ⟨p,0,none⟩),.agg #[.int .i64 5,.int .i64 o,.int .i64 a,.int .i64 ln,.string s,.slice (some ⟨g,off,none⟩) 1 c]] W (z1r (.tuple #[]) B p dp (l++(z0U o++opk n (z0l k1) y)) W):=by
 try simp only [List.length_append,List.length_cons,List.length_nil] at hl
 have hSa:=Nat.le_of_eq (Lib.size_eq s)
 have hSb:=Nat.le_of_eq (Lib.size_eq s).symm
 have hL:l.length≤1099511627776:=by omega
 have HY:=zhi hy
 have HF:=zhi hF
 have HS:=zhi hsy
 have Ih:=zhi ih
 have HO:=zhi (And.intro ho ho2)
 clear hy hsy ih ho ho2
 have h0:=PrS.box hw hx hF
 have H0:=zhi h0
 obtain ⟨j0,j1,j2,j3,j4,j5⟩:=h0.cells
 clear h0 hx hF hw
 go_enter Tryz.func30,Tryz.ntmps30
 go_upto_region 1 with fail
 generalize W.alloc (.cells #[.int .i64 5,.int .i64 o,.int .i64 a,.int .i64 ln,.string s,.slice (some ⟨g,off,none⟩) 1 c] 37)=W1 at *
 generalize W.heap.size=q at *
 have HC:=zhi (z3G 5 o a ln s (some ⟨g,off,none⟩) 1 c W1.drew HO.out.1 HO.out.2)
 go_upto_region 17 with fail
 go_region_with
  (first
   | (
     go_at_call 52
     refine HC.out.mono ?_
     rintro e w2 ⟨t,rfl,ht,hb2⟩
     have H2:=zhi (H0.out.drew.next hb2)
     have hsz:t.size≤2:=Nat.le_trans (Nat.le_of_eq (z0c ht.out)) (z3f 5 o)
     have hst:t.size≤(z0U o).length:=Nat.le_of_eq (z0c ht.out)
     have HD:=zhi (z0v H2.out.wri t (Nat.le_trans (Nat.add_le_add hL hsz) (by decide)))
     clear hb2)
   | (
     go_at_call 50
     refine HD.out.mono ?_
     rintro e w3 ⟨rfl,hw3,hk3⟩
     have H3:=zhi (H2.out.wrote hw3.out hk3.out)
     clear hw3 hk3))
 have HA:=zhi ((HY.out.wk HF.out H3.out.wk).at_ 1 c 0 rfl (by decide))
 clear HC HD H0 H2 j0 j1 j2 j3 j4 j5
 obtain ⟨i0,i1,i2,i3,i4,i5⟩:=H3.out.cells
 go_wp2_with fail
 refine HA.out.mono ?_
 rintro e w4 ⟨rfl,hb4⟩
 have H4:=zhi (H3.out.next hb4)
 have HX:=zhi (z0Y Ih.out F y k1 o1 a1 l1 s1 A1 m1 c1 B p dp _ w4 [] none 0 0 (z0l k1) (HY.out.wk HF.out H4.out.wk).ex HF.out HS.out H4.out.wri (by rw [List.length_append,← Lib.size_eq]; omega) rfl (Nat.le_refl _) (by decide) (fun i z h=>by simp at h) (by rw [show ([]:List Int).contains k1=false from rfl,Bool.or_false]))
 clear hb4 HA H3 i0 i1 i2 i3 i4 i5
 go_wp2_with fail
 refine HX.out.mono ?_
 rintro e w5 ⟨rfl,hw5,hk5⟩
 have H5:=zhi (H4.out.wrote hw5.out hk5.out)
 clear hk5 HX H4
 go_wp2_with fail
 go_end0
 exact ⟨rfl,zhi (by have h1:=ht.out; have h2:=hw5.out; rw [h1] at h2; simpa [sgnK] using h2),zhi H5.out.wk⟩
set_option linter.unusedSimpArgs false in
set_option maxRecDepth 100000 in
set_option maxHeartbeats 2000000 in
theorem zcK {n:Nat} (ih:PrC n) (F:Nat→Prop) (N:Nat) (x y z:Ex) (o a ln:Int) (s:ByteArray) (g off c B p:Nat) (dp:Int) (l:z04) (W:World) (k1 o1 a1 l1:Int) (s1:ByteArray) (A1:Option Addr) (m1 c1:Nat) (k2 o2 a2 l2:Int) (s2:ByteArray) (A2:Option Addr) (m2 c2:Nat) (hx:ExV F W N x (.agg #[.int .i64 6,.int .i64 o,.int .i64 a,.int .i64 ln,.string s,.slice (some ⟨g,off,none⟩) 2 c])) (hF:∀ q,F q→q<B) (hw:Wri B p dp l W) (hy:Kid F n y g off 0 k1 o1 a1 l1 s1 A1 m1 c1 W) (hz:Kid F n z g off 1 k2 o2 a2 l2 s2 A2 m2 c2 W) (ho:0≤o) (ho2:o≤11) (hsy:ShP n y) (hsz:ShP n z) (hl:l.length+(((opk n (z0l k1) y++32 :: (sgnK 6 o++32 :: opk n (z0l k2) z)):z04)).length≤1099511627776) :
  Calls Tryz.prog 30 #[.pointer (some ⟨p,0,none⟩),.agg #[.int .i64 6,.int .i64 o,.int .i64 a,.int .i64 ln,.string s,.slice (some ⟨g,off,none⟩) 2 c]] W (z1r (.tuple #[]) B p dp (l++(opk n (z0l k1) y++32 :: (sgnK 6 o++32 :: opk n (z0l k2) z))) W):=by
 try simp only [List.length_append,List.length_cons,List.length_nil] at hl
 have hSa:=Nat.le_of_eq (Lib.size_eq s)
 have hSb:=Nat.le_of_eq (Lib.size_eq s).symm
 have hL:l.length≤1099511627776:=by omega
 have HY:=zhi hy
 have HZ:=zhi hz
 have HF:=zhi hF
 have HS:=zhi hsy
 have HSz:=zhi hsz
 have Ih:=zhi ih
 have HO:=zhi (And.intro ho ho2)
 have HL2:Hid ((l++opk n (z0l k1) y).length≤1099511627776):=zhi (by rw [List.length_append]; omega)
 clear hy hz hsy hsz ih ho ho2
 have h0:=PrS.box hw hx hF
 have H0:=zhi h0
 obtain ⟨j0,j1,j2,j3,j4,j5⟩:=h0.cells
 clear h0 hx hF hw
 go_enter Tryz.func30,Tryz.ntmps30
 go_upto_region 1 with fail
 generalize W.alloc (.cells #[.int .i64 6,.int .i64 o,.int .i64 a,.int .i64 ln,.string s,.slice (some ⟨g,off,none⟩) 2 c] 37)=W1 at *
 generalize W.heap.size=q at *
 have HA:=zhi ((HY.out.wk HF.out H0.out.wk).at_ 2 c 0 rfl (by decide))
 go_wp2_with fail
 refine HA.out.mono ?_
 rintro e w2 ⟨rfl,hb2⟩
 have H2:=zhi (H0.out.next hb2)
 have HX:=zhi (z0Y Ih.out F y k1 o1 a1 l1 s1 A1 m1 c1 B p dp _ w2 [] none 0 0 (z0l k1) (HY.out.wk HF.out H2.out.wk).ex HF.out HS.out H2.out.wri (by omega) rfl (Nat.le_refl _) (by decide) (fun i z h=>by simp at h) (by rw [show ([]:List Int).contains k1=false from rfl,Bool.or_false]))
 clear hb2 HA H0 j0 j1 j2 j3 j4 j5
 go_wp2_with fail
 refine HX.out.mono ?_
 rintro e w3 ⟨rfl,hw3,hk3⟩
 have H3:=zhi (H2.out.wrote hw3.out hk3.out)
 obtain ⟨i0,i1,i2,i3,i4,i5⟩:=H3.out.cells
 have HC:=zhi (z3G 6 o a ln s (some ⟨g,off,none⟩) 2 c w3.drew HO.out.1 HO.out.2)
 clear hw3 hk3 HX H2
 go_upto_region 23 with fail
 go_region_with
  (first
   | (
     go_at_call 52
     refine HC.out.mono ?_
     rintro e w4 ⟨t,rfl,ht,hb4⟩
     have H4:=zhi (H3.out.drew.next hb4)
     have hsz:t.size≤2:=Nat.le_trans (Nat.le_of_eq (z0c ht.out)) (z3f 6 o)
     have hst:t.size≤(sgnK 6 o).length:=Nat.le_of_eq (z0c ht.out)
     have HD:=zhi (z0v H4.out.wri (⟨#[32]⟩++t++⟨#[32]⟩) (z4I hsz HL2.out))
     have hq1:=z12 (n:=1+t.size) (m:=1001) (by omega) (by omega)
     have hq2:=z12 (n:=1+t.size+1) (m:=1001) (by omega) (by omega)
     clear hb4)
   | (
     go_at_call 50
     refine HD.out.mono ?_
     rintro e w5 ⟨rfl,hw5,hk5⟩
     have H5:=zhi (H4.out.wrote hw5.out hk5.out)
     clear hw5 hk5))
 have HA2:=zhi ((HZ.out.wk HF.out H5.out.wk).at_ 2 c 1 rfl (by decide))
 clear HC HD H3 H4 i0 i1 i2 i3 i4 i5
 obtain ⟨i0,i1,i2,i3,i4,i5⟩:=H5.out.cells
 go_wp2_with fail
 refine HA2.out.mono ?_
 rintro e w6 ⟨rfl,hb6⟩
 have H6:=zhi (H5.out.next hb6)
 have HX2:=zhi (z0Y Ih.out F z k2 o2 a2 l2 s2 A2 m2 c2 B p dp _ w6 [] none 0 0 (z0l k2) (HZ.out.wk HF.out H6.out.wk).ex HF.out HSz.out H6.out.wri (by rw [List.length_append,List.length_append,← Lib.size_eq,ByteArray.size_append,ByteArray.size_append]; have:(⟨#[32]⟩:ByteArray).size=1:=rfl; omega) rfl (Nat.le_refl _) (by decide) (fun i z h=>by simp at h) (by rw [show ([]:List Int).contains k2=false from rfl,Bool.or_false]))
 clear hb6 HA2 H5 i0 i1 i2 i3 i4 i5
 go_wp2_with fail
 refine HX2.out.mono ?_
 rintro e w7 ⟨rfl,hw7,hk7⟩
 have H7:=zhi (H6.out.wrote hw7.out hk7.out)
 clear hk7 HX2 H6
 go_wp2_with fail
 go_end0
 exact ⟨rfl,zhi (by have h1:=ht.out; have h2:=hw7.out; rw [ByteArray.data_append,ByteArray.data_append,Array.toList_append,Array.toList_append,h1] at h2; simpa using h2),zhi H7.out.wk⟩
set_option linter.unusedSimpArgs false in
set_option maxRecDepth 100000 in
set_option maxHeartbeats 2000000 in
theorem zcL {n:Nat} (ih:PrC n) (F:Nat→Prop) (N:Nat) (x y z:Ex) (o a ln:Int) (s:ByteArray) (g off c B p:Nat) (dp:Int) (l:z04) (W:World) (k1 o1 a1 l1:Int) (s1:ByteArray) (A1:Option Addr) (m1 c1:Nat) (k2 o2 a2 l2:Int) (s2:ByteArray) (A2:Option Addr) (m2 c2:Nat) (hx:ExV F W N x (.agg #[.int .i64 7,.int .i64 o,.int .i64 a,.int .i64 ln,.string s,.slice (some ⟨g,off,none⟩) 2 c])) (hF:∀ q,F q→q<B) (hw:Wri B p dp l W) (hy:Kid F n y g off 0 k1 o1 a1 l1 s1 A1 m1 c1 W) (hz:Kid F n z g off 1 k2 o2 a2 l2 s2 A2 m2 c2 W) (ho:0≤o) (ho2:o≤11) (hsy:ShP n y) (hsz:ShP n z) (hl:l.length+(((opk n (z0l k1) y++32 :: (sgnK 7 o++32 :: opk n (z0l k2) z)):z04)).length≤1099511627776) :
  Calls Tryz.prog 30 #[.pointer (some ⟨p,0,none⟩),.agg #[.int .i64 7,.int .i64 o,.int .i64 a,.int .i64 ln,.string s,.slice (some ⟨g,off,none⟩) 2 c]] W (z1r (.tuple #[]) B p dp (l++(opk n (z0l k1) y++32 :: (sgnK 7 o++32 :: opk n (z0l k2) z))) W):=by
 try simp only [List.length_append,List.length_cons,List.length_nil] at hl
 have hSa:=Nat.le_of_eq (Lib.size_eq s)
 have hSb:=Nat.le_of_eq (Lib.size_eq s).symm
 have hL:l.length≤1099511627776:=by omega
 have HY:=zhi hy
 have HZ:=zhi hz
 have HF:=zhi hF
 have HS:=zhi hsy
 have HSz:=zhi hsz
 have Ih:=zhi ih
 have HO:=zhi (And.intro ho ho2)
 have HL2:Hid ((l++opk n (z0l k1) y).length≤1099511627776):=zhi (by rw [List.length_append]; omega)
 clear hy hz hsy hsz ih ho ho2
 have h0:=PrS.box hw hx hF
 have H0:=zhi h0
 obtain ⟨j0,j1,j2,j3,j4,j5⟩:=h0.cells
 clear h0 hx hF hw
 go_enter Tryz.func30,Tryz.ntmps30
 go_upto_region 1 with fail
 generalize W.alloc (.cells #[.int .i64 7,.int .i64 o,.int .i64 a,.int .i64 ln,.string s,.slice (some ⟨g,off,none⟩) 2 c] 37)=W1 at *
 generalize W.heap.size=q at *
 have HA:=zhi ((HY.out.wk HF.out H0.out.wk).at_ 2 c 0 rfl (by decide))
 go_wp2_with fail
 refine HA.out.mono ?_
 rintro e w2 ⟨rfl,hb2⟩
 have H2:=zhi (H0.out.next hb2)
 have HX:=zhi (z0Y Ih.out F y k1 o1 a1 l1 s1 A1 m1 c1 B p dp _ w2 [] none 0 0 (z0l k1) (HY.out.wk HF.out H2.out.wk).ex HF.out HS.out H2.out.wri (by omega) rfl (Nat.le_refl _) (by decide) (fun i z h=>by simp at h) (by rw [show ([]:List Int).contains k1=false from rfl,Bool.or_false]))
 clear hb2 HA H0 j0 j1 j2 j3 j4 j5
 go_wp2_with fail
 refine HX.out.mono ?_
 rintro e w3 ⟨rfl,hw3,hk3⟩
 have H3:=zhi (H2.out.wrote hw3.out hk3.out)
 obtain ⟨i0,i1,i2,i3,i4,i5⟩:=H3.out.cells
 have HC:=zhi (z3G 7 o a ln s (some ⟨g,off,none⟩) 2 c w3.drew HO.out.1 HO.out.2)
 clear hw3 hk3 HX H2
 go_upto_region 23 with fail
 go_region_with
  (first
   | (
     go_at_call 52
     refine HC.out.mono ?_
     rintro e w4 ⟨t,rfl,ht,hb4⟩
     have H4:=zhi (H3.out.drew.next hb4)
     have hsz:t.size≤2:=Nat.le_trans (Nat.le_of_eq (z0c ht.out)) (z3f 7 o)
     have hst:t.size≤(sgnK 7 o).length:=Nat.le_of_eq (z0c ht.out)
     have HD:=zhi (z0v H4.out.wri (⟨#[32]⟩++t++⟨#[32]⟩) (z4I hsz HL2.out))
     have hq1:=z12 (n:=1+t.size) (m:=1001) (by omega) (by omega)
     have hq2:=z12 (n:=1+t.size+1) (m:=1001) (by omega) (by omega)
     clear hb4)
   | (
     go_at_call 50
     refine HD.out.mono ?_
     rintro e w5 ⟨rfl,hw5,hk5⟩
     have H5:=zhi (H4.out.wrote hw5.out hk5.out)
     clear hw5 hk5))
 have HA2:=zhi ((HZ.out.wk HF.out H5.out.wk).at_ 2 c 1 rfl (by decide))
 clear HC HD H3 H4 i0 i1 i2 i3 i4 i5
 obtain ⟨i0,i1,i2,i3,i4,i5⟩:=H5.out.cells
 go_wp2_with fail
 refine HA2.out.mono ?_
 rintro e w6 ⟨rfl,hb6⟩
 have H6:=zhi (H5.out.next hb6)
 have HX2:=zhi (z0Y Ih.out F z k2 o2 a2 l2 s2 A2 m2 c2 B p dp _ w6 [] none 0 0 (z0l k2) (HZ.out.wk HF.out H6.out.wk).ex HF.out HSz.out H6.out.wri (by rw [List.length_append,List.length_append,← Lib.size_eq,ByteArray.size_append,ByteArray.size_append]; have:(⟨#[32]⟩:ByteArray).size=1:=rfl; omega) rfl (Nat.le_refl _) (by decide) (fun i z h=>by simp at h) (by rw [show ([]:List Int).contains k2=false from rfl,Bool.or_false]))
 clear hb6 HA2 H5 i0 i1 i2 i3 i4 i5
 go_wp2_with fail
 refine HX2.out.mono ?_
 rintro e w7 ⟨rfl,hw7,hk7⟩
 have H7:=zhi (H6.out.wrote hw7.out hk7.out)
 clear hk7 HX2 H6
 go_wp2_with fail
 go_end0
 exact ⟨rfl,zhi (by have h1:=ht.out; have h2:=hw7.out; rw [ByteArray.data_append,ByteArray.data_append,Array.toList_append,Array.toList_append,h1] at h2; simpa using h2),zhi H7.out.wk⟩
set_option linter.unusedSimpArgs false in
set_option maxRecDepth 100000 in
set_option maxHeartbeats 2000000 in
theorem zcM {n:Nat} (ih:PrC n) (F:Nat→Prop) (N:Nat) (x y z:Ex) (o a ln:Int) (s:ByteArray) (g off c B p:Nat) (dp:Int) (l:z04) (W:World) (k1 o1 a1 l1:Int) (s1:ByteArray) (A1:Option Addr) (m1 c1:Nat) (k2 o2 a2 l2:Int) (s2:ByteArray) (A2:Option Addr) (m2 c2:Nat) (hx:ExV F W N x (.agg #[.int .i64 8,.int .i64 o,.int .i64 a,.int .i64 ln,.string s,.slice (some ⟨g,off,none⟩) 2 c])) (hF:∀ q,F q→q<B) (hw:Wri B p dp l W) (hy:Kid F n y g off 0 k1 o1 a1 l1 s1 A1 m1 c1 W) (hz:Kid F n z g off 1 k2 o2 a2 l2 s2 A2 m2 c2 W) (ho:0≤o) (ho2:o≤11) (hsy:ShP n y) (hsz:ShP n z) (hl:l.length+(((opk n (z0l k1) y++32 :: (sgnK 8 o++32 :: opk n (z0l k2) z)):z04)).length≤1099511627776) :
  Calls Tryz.prog 30 #[.pointer (some ⟨p,0,none⟩),.agg #[.int .i64 8,.int .i64 o,.int .i64 a,.int .i64 ln,.string s,.slice (some ⟨g,off,none⟩) 2 c]] W (z1r (.tuple #[]) B p dp (l++(opk n (z0l k1) y++32 :: (sgnK 8 o++32 :: opk n (z0l k2) z))) W):=by
 try simp only [List.length_append,List.length_cons,List.length_nil] at hl
 have hSa:=Nat.le_of_eq (Lib.size_eq s)
 have hSb:=Nat.le_of_eq (Lib.size_eq s).symm
 have hL:l.length≤1099511627776:=by omega
 have HY:=zhi hy
 have HZ:=zhi hz
 have HF:=zhi hF
 have HS:=zhi hsy
 have HSz:=zhi hsz
 have Ih:=zhi ih
 have HO:=zhi (And.intro ho ho2)
 have HL2:Hid ((l++opk n (z0l k1) y).length≤1099511627776):=zhi (by rw [List.length_append]; omega)
 clear hy hz hsy hsz ih ho ho2
 have h0:=PrS.box hw hx hF
 have H0:=zhi h0
 obtain ⟨j0,j1,j2,j3,j4,j5⟩:=h0.cells
 clear h0 hx hF hw
 go_enter Tryz.func30,Tryz.ntmps30
 go_upto_region 1 with fail
 generalize W.alloc (.cells #[.int .i64 8,.int .i64 o,.int .i64 a,.int .i64 ln,.string s,.slice (some ⟨g,off,none⟩) 2 c] 37)=W1 at *
 generalize W.heap.size=q at *
 have HA:=zhi ((HY.out.wk HF.out H0.out.wk).at_ 2 c 0 rfl (by decide))
 go_wp2_with fail
 refine HA.out.mono ?_
 rintro e w2 ⟨rfl,hb2⟩
 have H2:=zhi (H0.out.next hb2)
 have HX:=zhi (z0Y Ih.out F y k1 o1 a1 l1 s1 A1 m1 c1 B p dp _ w2 [] none 0 0 (z0l k1) (HY.out.wk HF.out H2.out.wk).ex HF.out HS.out H2.out.wri (by omega) rfl (Nat.le_refl _) (by decide) (fun i z h=>by simp at h) (by rw [show ([]:List Int).contains k1=false from rfl,Bool.or_false]))
 clear hb2 HA H0 j0 j1 j2 j3 j4 j5
 go_wp2_with fail
 refine HX.out.mono ?_
 rintro e w3 ⟨rfl,hw3,hk3⟩
 have H3:=zhi (H2.out.wrote hw3.out hk3.out)
 obtain ⟨i0,i1,i2,i3,i4,i5⟩:=H3.out.cells
 have HC:=zhi (z3G 8 o a ln s (some ⟨g,off,none⟩) 2 c w3.drew HO.out.1 HO.out.2)
 clear hw3 hk3 HX H2
 go_upto_region 23 with fail
 go_region_with
  (first
   | (
     go_at_call 52
     refine HC.out.mono ?_
     rintro e w4 ⟨t,rfl,ht,hb4⟩
     have H4:=zhi (H3.out.drew.next hb4)
     have hsz:t.size≤2:=Nat.le_trans (Nat.le_of_eq (z0c ht.out)) (z3f 8 o)
     have hst:t.size≤(sgnK 8 o).length:=Nat.le_of_eq (z0c ht.out)
     have HD:=zhi (z0v H4.out.wri (⟨#[32]⟩++t++⟨#[32]⟩) (z4I hsz HL2.out))
     have hq1:=z12 (n:=1+t.size) (m:=1001) (by omega) (by omega)
     have hq2:=z12 (n:=1+t.size+1) (m:=1001) (by omega) (by omega)
     clear hb4)
   | (
     go_at_call 50
     refine HD.out.mono ?_
     rintro e w5 ⟨rfl,hw5,hk5⟩
     have H5:=zhi (H4.out.wrote hw5.out hk5.out)
     clear hw5 hk5))
 have HA2:=zhi ((HZ.out.wk HF.out H5.out.wk).at_ 2 c 1 rfl (by decide))
 clear HC HD H3 H4 i0 i1 i2 i3 i4 i5
 obtain ⟨i0,i1,i2,i3,i4,i5⟩:=H5.out.cells
 go_wp2_with fail
 refine HA2.out.mono ?_
 rintro e w6 ⟨rfl,hb6⟩
 have H6:=zhi (H5.out.next hb6)
 have HX2:=zhi (z0Y Ih.out F z k2 o2 a2 l2 s2 A2 m2 c2 B p dp _ w6 [] none 0 0 (z0l k2) (HZ.out.wk HF.out H6.out.wk).ex HF.out HSz.out H6.out.wri (by rw [List.length_append,List.length_append,← Lib.size_eq,ByteArray.size_append,ByteArray.size_append]; have:(⟨#[32]⟩:ByteArray).size=1:=rfl; omega) rfl (Nat.le_refl _) (by decide) (fun i z h=>by simp at h) (by rw [show ([]:List Int).contains k2=false from rfl,Bool.or_false]))
 clear hb6 HA2 H5 i0 i1 i2 i3 i4 i5
 go_wp2_with fail
 refine HX2.out.mono ?_
 rintro e w7 ⟨rfl,hw7,hk7⟩
 have H7:=zhi (H6.out.wrote hw7.out hk7.out)
 clear hk7 HX2 H6
 go_wp2_with fail
 go_end0
 exact ⟨rfl,zhi (by have h1:=ht.out; have h2:=hw7.out; rw [ByteArray.data_append,ByteArray.data_append,Array.toList_append,Array.toList_append,h1] at h2; simpa using h2),zhi H7.out.wk⟩
set_option linter.unusedSimpArgs false in
set_option maxRecDepth 100000 in
set_option maxHeartbeats 2000000 in
theorem zb4 (F:Nat→Prop) (n N:Nat) (ih:PrC N) (x:Ex) (o a ln:Int) (s:ByteArray) (A:Option Addr) (m c B p:Nat) (dp:Int) (l:z04) (W:World) (hx:ExV F W n x (.agg #[.int .i64 9,.int .i64 o,.int .i64 a,.int .i64 ln,.string s,.slice A m c])) (hF:∀ q,F q→q<B) (hw:Wri B p dp l W) (xs:List Ex) (hr:RowE F W N xs A c) (hss:∀ y∈xs,ShP N y) (hm:xs.length=m) (hm1:m≤1000) (hl:l.length+(((s.data.toList++lst N xs):z04)).length≤1099511627776) :
  Calls Tryz.prog 30 #[.pointer (some ⟨p,0,none⟩),.agg #[.int .i64 9,.int .i64 o,.int .i64 a,.int .i64 ln,.string s,.slice A m c]] W (z1r (.tuple #[]) B p dp (l++(s.data.toList++lst N xs)) W):=by
 try simp only [List.length_append,List.length_cons,List.length_nil] at hl
 have hSa:=Nat.le_of_eq (Lib.size_eq s)
 have hSb:=Nat.le_of_eq (Lib.size_eq s).symm
 have hL:l.length≤1099511627776:=by omega
 have HF:=zhi hF
 have HS:=zhi hss
 have HR:=zhi hr
 have HM:=zhi hm
 have Ih:=zhi ih
 clear hr hss hm ih
 have h0:=PrS.box hw hx hF
 have H0:=zhi h0
 obtain ⟨j0,j1,j2,j3,j4,j5⟩:=h0.cells
 clear h0 hx hF hw
 go_enter Tryz.func30,Tryz.ntmps30
 go_upto_region 1 with fail
 generalize W.alloc (.cells #[.int .i64 9,.int .i64 o,.int .i64 a,.int .i64 ln,.string s,.slice A m c] 37)=W1 at *
 generalize W.heap.size=q at *
 have HC:=zhi (z0v H0.out.drew.wri s (by omega))
 go_upto_region 26 with fail
 go_still_tail 5,(by kernel_rfl)
 change wpList _ _ _ _ _ W1.drew
 go_wp2_with fail
 refine HC.out.mono ?_
 rintro e w3 ⟨rfl,hw3,hk3⟩
 have H3:=zhi (H0.out.drew.wrote hw3.out hk3.out)
 have HX:=zhi (z1S Ih.out F xs A c m B p dp _ w3 (z7k HR.out HF.out H3.out.wk) HF.out HS.out HM.out hm1 H3.out.wri (by rw [List.length_append,← Lib.size_eq]; omega))
 obtain ⟨i0,i1,i2,i3,i4,i5⟩:=H3.out.cells
 clear hw3 hk3 HC H0 j0 j1 j2 j3 j4 j5
 go_wp2_with fail
 refine HX.out.mono ?_
 rintro e w5 ⟨rfl,hw5,hk5⟩
 have H5:=zhi (H3.out.wrote hw5.out hk5.out)
 clear hk5 HX H3
 go_wp2_with fail
 go_end0
 exact ⟨rfl,zhi (by simpa using hw5.out),zhi H5.out.wk⟩
set_option linter.unusedSimpArgs false in
set_option maxRecDepth 100000 in
set_option maxHeartbeats 2000000 in
theorem zb8 {n:Nat} (ih:PrC n) (F:Nat→Prop) (N:Nat) (x y:Ex) (o a ln:Int) (s:ByteArray) (g off m c B p:Nat) (dp:Int) (l:z04) (W:World) (k1 o1 a1 l1:Int) (s1:ByteArray) (A1:Option Addr) (m1 c1:Nat) (hx:ExV F W N x (.agg #[.int .i64 10,.int .i64 o,.int .i64 a,.int .i64 ln,.string s,.slice (some ⟨g,off,none⟩) m c])) (hF:∀ q,F q→q<B) (hw:Wri B p dp l W) (xs:List Ex) (hr:RowE F W n (y :: xs) (some ⟨g,off,none⟩) c) (hy:Kid F n y g off 0 k1 o1 a1 l1 s1 A1 m1 c1 W) (hss:∀ y∈xs,ShP n y) (hsy:ShP n y) (hm:xs.length+1=m) (hm1:m≤1000) (b:Bool) (hb:(z0l k1||[13,2,3].contains k1)=b) (hl:l.length+(((opk n b y++lst n xs):z04)).length≤1099511627776) :
  Calls Tryz.prog 30 #[.pointer (some ⟨p,0,none⟩),.agg #[.int .i64 10,.int .i64 o,.int .i64 a,.int .i64 ln,.string s,.slice (some ⟨g,off,none⟩) m c]] W (z1r (.tuple #[]) B p dp (l++(opk n b y++lst n xs)) W):=by
 try simp only [List.length_append,List.length_cons,List.length_nil] at hl
 have hSa:=Nat.le_of_eq (Lib.size_eq s)
 have hSb:=Nat.le_of_eq (Lib.size_eq s).symm
 have hL:l.length≤1099511627776:=by omega
 have HY:=zhi hy
 have HF:=zhi hF
 have HS:=zhi hss
 have HSy:=zhi hsy
 have HR:=zhi hr
 have HM:=zhi hm
 have HB:=zhi hb
 have Ih:=zhi ih
 have hmp:0<m:=by omega
 have hmc:m≤c:=by have:=hr.1; simp at this; omega
 clear hy hr hss hsy hm ih hb
 have h0:=PrS.box hw hx hF
 have H0:=zhi h0
 obtain ⟨j0,j1,j2,j3,j4,j5⟩:=h0.cells
 clear h0 hx hF hw
 go_enter Tryz.func30,Tryz.ntmps30
 go_upto_region 1 with fail
 generalize W.alloc (.cells #[.int .i64 10,.int .i64 o,.int .i64 a,.int .i64 ln,.string s,.slice (some ⟨g,off,none⟩) m c] 37)=W1 at *
 generalize W.heap.size=q at *
 have HA:=zhi ((HY.out.wk HF.out H0.out.wk).at_ m c 0 rfl (by omega))
 go_wp2_with fail
 refine HA.out.mono ?_
 rintro e w2 ⟨rfl,hb2⟩
 have H2:=zhi (H0.out.next hb2)
 clear hb2 HA H0 j0 j1 j2 j3 j4 j5
 obtain ⟨Z,hZ⟩:∃ Z:Obj,Z=.cells #[.int .i64 13,.int .i64 2,.int .i64 3] 3:=⟨_,rfl⟩
 have hz:=(Below.refl _ w2).alloc (Nat.le_refl _) Z
 have H3:=zhi (H2.out.next hz)
 have HX:=zhi (z0Y Ih.out F y k1 o1 a1 l1 s1 A1 m1 c1 B p dp _ (w2.alloc Z) [13,2,3] (some ⟨w2.heap.size,0,none⟩) 3 3 b (HY.out.wk HF.out H3.out.wk).ex HF.out HSy.out H3.out.wri (by omega) rfl (by decide) (by decide) (by rw [hZ]; exact z74 w2 [13,2,3] _) HB.out)
 subst hZ
 clear hz H2
 go_wp2_with fail
 refine HX.out.mono ?_
 rintro e w4 ⟨rfl,hw4,hk4⟩
 have H4:=zhi (H3.out.wrote hw4.out hk4.out)
 obtain ⟨i0,i1,i2,i3,i4,i5⟩:=H4.out.cells
 clear hw4 hk4 HX H3
 have hmin:min (1:Int) (m:Int)=1:=by omega
 by_cases hc1:c=1
 ·subst hc1
  obtain rfl:m=1:=by omega
  have hxs:xs=[]:=List.eq_nil_of_length_eq_zero (by have:=HM.out; omega)
  subst hxs
  have HX2:=zhi (z1S Ih.out F [] (some ⟨g,off,none⟩) 0 0 B p dp _ w4 ⟨Nat.le_refl _,fun i x h=>by simp at h⟩ HF.out HS.out rfl (by decide) H4.out.wri (by rw [List.length_append]; omega))
  clear hmin hmc hmp
  go_wp2_with fail
  refine HX2.out.mono ?_
  rintro e w5 ⟨rfl,hw5,hk5⟩
  have H5:=zhi (H4.out.wrote hw5.out hk5.out)
  clear hk5 HX2 H4
  go_wp2_with fail
  go_end0
  exact ⟨rfl,zhi (by simpa using hw5.out),zhi H5.out.wk⟩
 ·have HX2:=zhi (z1S Ih.out F xs (some ⟨g,off+6,none⟩) (c - 1) (m - 1) B p dp _ w4 (zbf (z7k HR.out HF.out H4.out.wk)) HF.out HS.out (by have:=HM.out; omega) (by omega) H4.out.wri (by rw [List.length_append]; omega))
  go_wp2_with fail
  refine HX2.out.mono ?_
  rintro e w5 ⟨rfl,hw5,hk5⟩
  have H5:=zhi (H4.out.wrote hw5.out hk5.out)
  clear hk5 HX2 H4 hmin
  go_wp2_with fail
  go_end0
  exact ⟨rfl,zhi (by simpa using hw5.out),zhi H5.out.wk⟩
end Go.Proofs.YtkeihncfmbicnaaGreatDoor
