/-
  Kzb: PrFo. Walks and laws that the statement's proof is made of. No condition of its own.
-/
import Derived.Test.YtkeihncfmbicnaaGreatDoorKza
import Derived.Test.YtkeihncfmbicnaaGreatDoorKh
namespace Go.Proofs.YtkeihncfmbicnaaGreatDoor
open Go.RowKit
theorem zbK {B p b:Nat} {w w':World} {cs:Array Value} {T:TypeId} (h:w.heap[b]?=some (.cells cs T (0,0))) (hT:T≠5) (hb:b≠p) (hk:Wk B p w w'):w'.heap[b]?=some (.cells cs T (0,0)):=(hk.oth b _ _ _ h hT hb).trans h
theorem zdA (s:ByteArray):fmtG (s,0)=[103,108,111,98,97,108,32]++s.data.toList++[59,10]:=by simp [fmtG]
theorem zdB (s:ByteArray) {z:Int} (h:0<z):fmtG (s,z)=[103,108,111,98,97,108,32]++s.data.toList++[91]++numL z.toNat++[93,59,10]:=by simp [fmtG,h]
set_option maxRecDepth 100000 in
set_option maxHeartbeats 2000000 in
theorem z6w {B p:Nat} {l:z04} {W:World} (s:ByteArray) (z:Int) (hw:Wri B p ((0:Nat):Int) l W) (h0:0≤z) (h1:z<9223372036854775808) (hs:s.size≤1000) (hl:l.length≤1000000000000) :
  Calls Tryz.prog 23 #[.pointer (some ⟨p,0,none⟩),.agg #[.string s,.int .i64 z]] W (z1r (.tuple #[]) B p ((0:Nat):Int) (l++fmtG (s,z)) W):=by
 have hb0:=(Below.refl _ W).alloc (Nat.le_refl _) (.cells #[.string s,.int .i64 z] 51)
 have hplt:=hw.wr.lt
 have hw1:=hw.next hb0
 have hk1:Wk B p W (W.alloc (.cells #[.string s,.int .i64 z] 51)):=Wk.same hb0 hw.le
 have hr1:=heap_alloc_new W (.cells #[.string s,.int .i64 z] 51)
 obtain ⟨W1,hW1⟩:∃ W1,W.alloc (.cells #[.string s,.int .i64 z] 51)=W1:=⟨_,rfl⟩
 obtain ⟨b,hb⟩:∃ b,W.heap.size=b:=⟨_,rfl⟩
 rw [hW1] at hw1 hk1 hr1
 rw [hb] at hr1 hplt
 obtain ⟨j0,j1⟩:=cl2 hr1
 have Hw1:=zhi hw1
 have Hk1:=zhi hk1
 have Hr1:=zhi hr1
 have HLn:=zhi (lnC hw1)
 have hbp:b≠p:=by omega
 have H0:=zhi h0
 have H1:=zhi h1
 clear hw hb0 hw1 hk1 hr1 h0 h1
 by_cases hz:z=0
 ·subst hz
  have HT:Hid (∀ t:ByteArray,t.data.toList=[103,108,111,98,97,108,32]++s.data.toList++[59]→l++lnT 0 t.data.toList=l++fmtG (s,0)):=zhi (fun t ht=>by rw [ht,zdA]; simp [lnT])
  go_enter Tryz.func23,Tryz.ntmps23
  go_upto_region 1 with fail
  clear hW1 hb
  go_wp2_with fail
  refine (HLn.out _ (by simp only [ByteArray.size_append]; show l.length+0+(7+s.size+1)≤_; omega)).mono ?_
  rintro e w4 ⟨rfl,h4,k4⟩
  rw [HT.out _ (by simp)] at h4
  have HK:=zhi (Hk1.out.trans k4.out)
  clear HT HLn k4
  go_wp2_with fail
  go_end0
  exact ⟨rfl,h4,HK⟩
 ·have hne:(z == 0)=false:=by simpa using hz
  have HT:Hid (∀ t:ByteArray,t.data.toList=[103,108,111,98,97,108,32]++s.data.toList++[91]++numL z.toNat++[93,59]→l++lnT 0 t.data.toList=l++fmtG (s,z)):=zhi (fun t ht=>by rw [ht,zdB s (by have:=H0.out; omega)]; simp [lnT])
  have Hz:=zhi hz
  clear hz
  have HI:=zhi (z77 z H0.out H1.out W1.drew Hw1.out.drew.tab)
  have HN:=zhi (z0P (n:=z.toNat) (by have:=H1.out; omega))
  have hS0:W1.drew.cell? ⟨b,0,none⟩=some (.string s)∧W1.drew.cell? ⟨b,1,none⟩=some (.int .i64 z):=⟨cell_of_row _ _ 0 _ _ _ Hr1.out,cell_of_row _ _ 1 _ _ _ Hr1.out⟩
  have hf3:(9223372036854775807<7+s.size)=False:=z12 (m:=1007) (by omega) (by decide)
  have hf4:(9223372036854775807<7+s.size+1)=False:=z12 (m:=1008) (by omega) (by decide)
  clear HLn
  go_enter Tryz.func23,Tryz.ntmps23
  go_upto_region 3 with fail
  clear hW1 hb
  go_region_held3 (fun w'=>w'.cell? ⟨b,0,none⟩=some (.string s)∧w'.cell? ⟨b,1,none⟩=some (.int .i64 z))
   (first | (with_reducible exact hS0) | (with_reducible exact hS4) | (with_reducible exact hS5))
   (first
    | (go_at_call 41; refine HI.out.mono ?_; rintro e w4 ⟨Y,rfl,hY,hb4⟩; have HW4:=zhi (Hw1.out.drew.next hb4); have HK4:=zhi (Hk1.out.drew.trans (Wk.same (p:=p) hb4 Hw1.out.drew.le)); have HR4:=zhi ((hb4.block b (Array.getElem?_eq_some_iff.1 Hr1.out).1).trans Hr1.out); have hS4:w4.cell? ⟨b,0,none⟩=some (.string s)∧w4.cell? ⟨b,1,none⟩=some (.int .i64 z):=⟨cell_of_row _ _ 0 _ _ _ HR4.out,cell_of_row _ _ 1 _ _ _ HR4.out⟩; have hYz:Y.size≤19:=(Nat.le_trans (Nat.le_of_eq (z0c hY.out)) HN.out); have HLn:=zhi (lnC HW4.out); have hf5:(9223372036854775807<7+s.size+1+Y.size)=False:=z12 (m:=1027) (by omega) (by decide); have hf6:(9223372036854775807<7+s.size+1+Y.size+2)=False:=z12 (m:=1029) (by omega) (by decide); clear hb4)
    | (go_at_call 40; refine (HLn.out _ (by simp only [ByteArray.size_append]; show l.length+0+(7+s.size+1+Y.size+2)≤_; omega)).mono ?_; rintro e w6 ⟨rfl,h6,k6⟩; have hS5:w6.cell? ⟨b,0,none⟩=some (.string s)∧w6.cell? ⟨b,1,none⟩=some (.int .i64 z):=(by have hr:=zbK HR4.out (by decide) hbp k6.out; exact ⟨cell_of_row _ _ 0 _ _ _ hr,cell_of_row _ _ 1 _ _ _ hr⟩); have HK6:=zhi (HK4.out.trans k6.out); rw [HT.out _ (by simp [hY.out])] at h6))
  clear HT HI hf3 hf4 hf5 hf6
  go_wp2_with fail
  go_end0
  exact ⟨rfl,h6,HK6⟩
theorem zdL {F:Nat→Prop} {w:World} {ps:List ByteArray} {A:Option Addr} {c n:Nat} (h:z0h F w ps A c) (hn:ps.length=n) (hl:(jl (ps.map (·.data.toList))).length≤1099511627776) (hn1:n≤1000) :
  Calls Tryz.prog 42 #[.slice A n c,.string ⟨#[44,32]⟩] w (z0L (jl (ps.map (·.data.toList))) w):=by
 subst hn
 cases ps with
 | nil =>
  exact (Tryz.strings_Join_none A c ⟨#[44,32]⟩ w).mono fun e w' ⟨h1,h2⟩=>by
   subst h1 h2
   exact z0x (by simp [jl,List.intercalate]) (Below.refl _ _)
 | cons p ps =>
  obtain ⟨g,rfl,_,hc⟩:=h.2 0 p rfl
  refine (Tryz.strings_Join g 0 c (p :: ps) ⟨#[44,32]⟩ w (fun j x hx=>?_) (World.block_lt_of_cell? _ _ hc) (by omega) h.1 (Nat.le_trans hl (by decide))).mono fun e w' ⟨h1,h2⟩=>?_
  ·obtain ⟨g2,e,_,hc2⟩:=h.2 j x hx
   injection e with e
   injection e with e _ _
   subst e
   simpa using hc2
  ·subst h1
   exact z0x (by simp [jl,Lib.join]) h2
def ShFq (D d:Nat) (f:Fn):Prop:=f.name.size≤1000∧f.params.length≤1000∧f.body.length≤1000∧∀ t∈f.body,ShQ D d t
theorem z8G (D d:Nat) (f:Fn):fmtF D d f=lnT 0 ([102,117,110,99,32]++f.name.data.toList++[40]++jl (f.params.map (·.data.toList))++[41,32,123])++fmtB D d f.body (List.replicate (0+1) 9)++lnT 0 [125]:=by simp [fmtF,lnT]
theorem z3g {F:Nat→Prop} {w w':World} {l:List ByteArray} {A:Option Addr} {c:Nat} (h:z0h F w l A c) (hk:∀ q,F q→w'.heap[q]?=w.heap[q]?):z0h F w' l A c :=
 ⟨h.1,fun i x hx=>by
  obtain ⟨g,hA,hg,hc⟩:=h.2 i x hx
  exact ⟨g,hA,hg,(World.cell?_of_block (hk g hg)).trans hc⟩⟩
set_option maxRecDepth 100000 in
set_option maxHeartbeats 2000000 in
theorem z5h {F:Nat→Prop} {D d:Nat} {B p:Nat} {l:z04} {W:World} (f:Fn) (pA bA:Option Addr) (pc bc n m:Nat) (hn:f.params.length=n) (hm:f.body.length=m) (hp:z0h F W f.params pA pc) (hb:RowS F W D d f.body bA bc) (hF:∀ q,F q→q<B) (hs:ShFq D d f) (hw:Wri B p ((0:Nat):Int) l W) (hl:l.length+(fmtF D d f).length≤1000000000000) :
  Calls Tryz.prog 24 #[.pointer (some ⟨p,0,none⟩),.agg #[.string f.name,.int .i64 f.line,.slice pA n pc,.slice bA m bc]] W (z1r (.tuple #[]) B p ((0:Nat):Int) (l++fmtF D d f) W):=by
 obtain ⟨hs1,hs2,hs3,hs4⟩:=hs
 rw [hn] at hs2
 rw [hm] at hs3
 have hb0:=(Below.refl _ W).alloc (Nat.le_refl _) (.cells #[.string f.name,.int .i64 f.line,.slice pA n pc,.slice bA m bc] 54)
 have hplt:=hw.wr.lt
 have hw1:=hw.next hb0
 have hk1:Wk B p W (W.alloc (.cells #[.string f.name,.int .i64 f.line,.slice pA n pc,.slice bA m bc] 54)):=Wk.same hb0 hw.le
 have hr1:=heap_alloc_new W (.cells #[.string f.name,.int .i64 f.line,.slice pA n pc,.slice bA m bc] 54)
 obtain ⟨W1,hW1⟩:∃ W1,W.alloc (.cells #[.string f.name,.int .i64 f.line,.slice pA n pc,.slice bA m bc] 54)=W1:=⟨_,rfl⟩
 obtain ⟨b,hbb⟩:∃ b,W.heap.size=b:=⟨_,rfl⟩
 rw [hW1] at hw1 hk1 hr1
 rw [hbb] at hr1 hplt
 have hbp:b≠p:=by omega
 have hL:=hl
 rw [z8G] at hL
 simp only [List.length_append,List.length_cons,List.length_nil,lnT,List.length_replicate] at hL
 have hpd:z0h F W1.drew f.params pA pc:=z3g hp (fun q hq=>hk1.bel.block q (hF q hq))
 have HJ:=zhi (zdL hpd hn (by omega) hs2)
 have HRB:Hid (∀ w',Wk B p W w'→RowS F w' D d f.body bA bc):=zhi (fun w' h=>RowS.keep (fun _ h=>h) (fun q hq=>h.bel.block q (hF q hq)) hb)
 obtain ⟨J,hJ⟩:∃ J,jl (f.params.map (·.data.toList))=J:=⟨_,rfl⟩
 obtain ⟨fl,hfl⟩:∃ fl,f.line=fl:=⟨_,rfl⟩
 obtain ⟨fnm,hfn⟩:∃ fnm,f.name=fnm:=⟨_,rfl⟩
 have hT0:∀ t:ByteArray,t.data.toList=[102,117,110,99,32]++fnm.data.toList++[40]++J++[41,32,123]→l++lnT 0 t.data.toList++fmtB D d f.body (List.replicate (0+1) 9)++lnT 0 (⟨#[125]⟩:ByteArray).data.toList=l++fmtF D d f:=fun t ht=>by
  rw [ht,z8G,← hJ,← hfn]
  simp
 have HT:=zhi hT0
 rw [hJ] at HJ hL
 rw [hfn] at hs1 hL
 have hfz:fnm.data.toList.length=fnm.size:=by simp
 have Hw1:=zhi hw1
 have Hk1:=zhi hk1
 have Hr1:=zhi hr1
 have Hm:=zhi hm
 have HF:=zhi hF
 have Hs4:=zhi hs4
 have hLJ:l.length+(5+fnm.size+1+J.length+3+1)+(fmtB D d f.body (List.replicate (0+1) 9)).length+2≤1000000000000:=by omega
 have HLB:=zhi hLJ
 have hJz:J.length≤1000000000000:=by omega
 have hS0:W1.drew.cell? ⟨b,0,none⟩=some (.string fnm)∧W1.drew.cell? ⟨b,2,none⟩=some (.slice pA n pc):=⟨(cell_of_row _ _ 0 _ _ _ Hr1.out).trans (by rw [← hfn]; rfl),cell_of_row _ _ 2 _ _ _ Hr1.out⟩
 have HLT:Hid (∀ s:Nat,s≤l.length+(5+fnm.size+1+J.length+3)→s≤1000000010000):=zhi (fun s h=>by omega)
 have hf3:(9223372036854775807<5+fnm.size)=False:=z12 (m:=1007) (by omega) (by decide)
 have hf4:(9223372036854775807<5+fnm.size+1)=False:=z12 (m:=1008) (by omega) (by decide)
 have hrow:(⟨b,0,none⟩:Addr)=⟨b,0,none⟩:=rfl
 clear hp hb hw hb0 hw1 hk1 hr1 hs4 hL hl hpd hn hm hF hT0 hLJ hfz hrow hJ
 rw [hfn,hfl]
 rw [hfn,hfl] at Hr1
 go_enter Tryz.func24,Tryz.ntmps24
 rw [hfn,hfl] at hW1
 go_upto_region 1 with fail
 clear hW1 hbb hfn hfl
 go_region_held3 (fun w'=>w'.cell? ⟨b,0,none⟩=some (.string fnm)∧w'.cell? ⟨b,2,none⟩=some (.slice pA n pc))
  (first | (with_reducible exact hS0) | (with_reducible exact hS4) | (with_reducible exact hS5))
  (first
   | (go_at_call 42; refine HJ.out.mono ?_; rintro e w4 ⟨Y,rfl,hY,hb4⟩; have HW4:=zhi (Hw1.out.drew.next hb4); have HK4:=zhi (Hk1.out.drew.trans (Wk.same (p:=p) hb4 Hw1.out.drew.le)); have HR4:=zhi ((hb4.block b (Array.getElem?_eq_some_iff.1 Hr1.out).1).trans Hr1.out); have hS4:w4.cell? ⟨b,0,none⟩=some (.string fnm)∧w4.cell? ⟨b,2,none⟩=some (.slice pA n pc):=⟨cell_of_row _ _ 0 _ _ _ HR4.out,cell_of_row _ _ 2 _ _ _ HR4.out⟩; have hYz:Y.size≤1000000000000:=(Nat.le_trans (Nat.le_of_eq (z0c hY.out)) hJz); have HYz:=zhi (z0c hY.out); have HLn:=zhi (lnC HW4.out); have hf5:(9223372036854775807<5+fnm.size+1+Y.size)=False:=z12 (m:=1000000001027) (by omega) (by decide); have hf6:(9223372036854775807<5+fnm.size+1+Y.size+3)=False:=z12 (m:=1000000001030) (by omega) (by decide); clear hb4)
   | (go_at_call 40; refine (HLn.out _ (by simp only [ByteArray.size_append]; show l.length+0+(5+fnm.size+1+Y.size+3)≤_; refine HLT.out _ ?_; rw [HYz.out]; exact Nat.le_refl _)).mono ?_; rintro e w6 ⟨rfl,h6,k6⟩; have HR6:=zhi (zbK HR4.out (by decide) hbp k6.out); have hS5:w6.cell? ⟨b,0,none⟩=some (.string fnm)∧w6.cell? ⟨b,2,none⟩=some (.slice pA n pc):=⟨cell_of_row _ _ 0 _ _ _ HR6.out,cell_of_row _ _ 2 _ _ _ HR6.out⟩; have HK6:=zhi (HK4.out.trans k6.out)))
 have e6:(⟨#[102,117,110,99,32]⟩++fnm++⟨#[40]⟩++Y++⟨#[41,32,123]⟩:ByteArray).data.toList.length=5+fnm.size+1+J.length+3:=by
  have h1:(⟨#[102,117,110,99,32]⟩++fnm++⟨#[40]⟩++Y++⟨#[41,32,123]⟩:ByteArray).data.toList.length=(⟨#[102,117,110,99,32]⟩++fnm++⟨#[40]⟩++Y++⟨#[41,32,123]⟩:ByteArray).size:=(Lib.size_eq _).symm
  rw [h1]
  simp only [ByteArray.size_append]
  rw [HYz.out]
  rfl
 have HT2:=zhi (HT.out (⟨#[102,117,110,99,32]⟩++fnm++⟨#[40]⟩++Y++⟨#[41,32,123]⟩) (by simp [hY.out]))
 obtain ⟨T,hTt⟩:∃ T,(⟨#[102,117,110,99,32]⟩++fnm++⟨#[40]⟩++Y++⟨#[41,32,123]⟩:ByteArray).data.toList=T:=⟨_,rfl⟩
 rw [hTt] at e6 HT2 h6
 have hz6:(l++lnT 0 T).length+(fmtB D d f.body (List.replicate (0+1) 9)).length≤999999999998:=by
  have h1:=HLB.out
  simp only [lnT,List.length_append,List.length_replicate,List.length_cons,List.length_nil]
  omega
 have c3:=cell_of_row _ _ 3 _ _ _ HR6.out
 have HC:=zhi (zbI D d F f.body bA m bc B p 0 _ w6 (HRB.out w6 HK6.out) Hm.out HF.out Hs4.out hs3 h6.out (by omega) (by omega))
 have HZ6:=zhi hz6
 clear e6 hTt h6 HT HJ hf3 hf4 hf5 hf6 hz6 hS0 hS4 hS5 HLT HYz hYz hJz hY
 dsimp only [Exit.then]
 go_wp2_with fail
 refine HC.out.mono ?_
 rintro e w7 ⟨rfl,h7,k7⟩
 have HD:=zhi (lnC h7.out ⟨#[125]⟩ (by have:=HZ6.out; simp only [List.length_append] at this ⊢; show _+0+1≤_; omega))
 have HK7:=zhi (HK6.out.trans k7.out)
 clear HC h7 k7 HK6 c3
 go_wp2_with fail
 refine HD.out.mono ?_
 rintro e w8 ⟨rfl,h8,k8⟩
 rw [HT2.out] at h8
 have HK8:=zhi (HK7.out.trans k8.out)
 clear HD k8 HK7 HT2
 go_wp2_with fail
 go_end0
 exact ⟨rfl,h8,HK8⟩
set_option maxRecDepth 100000 in
set_option maxHeartbeats 2000000 in
theorem z4t {F:Nat→Prop} {D d:Nat} (gl:List (ByteArray × Int)) (fl:List Fn) (gA fA:Option Addr) (gc fc n m:Nat) (W:World) (hg:z0j F W gl gA gc) (hf:z1f F W D d fl fA fc) (hn:gl.length=n) (hm:fl.length=m) (hF:∀ q,F q→q<W.heap.size) (ht:PowT W) (hgb:0<W.heap.size)
  (hgl:∀ x∈gl,x.1.size≤1000∧0≤x.2∧x.2<9223372036854775808) (hfl:∀ f∈fl,ShFq D d f) (hm1:1≤m) (hn2:n≤1000000) (hm2:m≤1000000) (hl:(fmtP D d gl fl).length≤1000000000000) :
  Calls Tryz.prog 8 #[.agg #[.slice gA n gc,.slice fA m fc]] W (z0L (fmtP D d gl fl) W):=by
 have hgc:n≤gc:=by rw [← hn]; exact hg.1
 have hfc:m≤fc:=by rw [← hm]; exact hf.1
 have hb0:=(Below.refl _ W).alloc (Nat.le_refl _) (.cells #[.slice gA n gc,.slice fA m fc] 29)
 have hb1:=hb0.alloc (by simp) (.cells #[.pointer none,.slice none 0 0,.int .i64 0] 69)
 have hr0:=z1N W (.cells #[.slice gA n gc,.slice fA m fc] 29) (.cells #[.pointer none,.slice none 0 0,.int .i64 0] 69)
 have hr1:=z2o W (.cells #[.slice gA n gc,.slice fA m fc] 29) (.cells #[.pointer none,.slice none 0 0,.int .i64 0] 69)
 have hw:Wri (W.heap.size+1) (W.heap.size+1) ((0:Nat):Int) [] ((W.alloc (.cells #[.slice gA n gc,.slice fA m fc] 29)).alloc (.cells #[.pointer none,.slice none 0 0,.int .i64 0] 69)):=⟨.inl ⟨Nat.le_refl _,_,hr1,World.ownsRow_nil _ _ _ _⟩,ht.next (hb1.mono (Nat.le_refl _)) hgb,by omega⟩
 obtain ⟨W2,hW2⟩:∃ W2,(W.alloc (.cells #[.slice gA n gc,.slice fA m fc] 29)).alloc (.cells #[.pointer none,.slice none 0 0,.int .i64 0] 69)=W2:=⟨_,rfl⟩
 rw [hW2] at hr0 hr1 hw hb1
 obtain ⟨b,hbb⟩:∃ b,W.heap.size=b:=⟨_,rfl⟩
 rw [hbb] at hr0 hr1 hw
 have HGl:Hid (∀ k x,gl[k]?=some x→∃ g,gA=some ⟨g,0,none⟩∧g<b∧W2.cell? ⟨g,k * 2,none⟩=some (.string x.1)∧W2.cell? ⟨g,k * 2+1,none⟩=some (.int .i64 x.2)):=zhi (fun k x hx=>by
  obtain ⟨g,hA,hFg,h0,h1⟩:=hg.2 k x hx
  exact ⟨g,hA,by rw [← hbb]; exact hF g hFg,hold hb1 h0,hold hb1 h1⟩)
 have HFl:Hid (∀ k f,fl[k]?=some f→∃ g pA pc bA bc,fA=some ⟨g,0,none⟩∧g<b∧W2.cell? ⟨g,k * 4,none⟩=some (.string f.name)∧W2.cell? ⟨g,k * 4+1,none⟩=some (.int .i64 f.line)∧W2.cell? ⟨g,k * 4+2,none⟩=some (.slice pA f.params.length pc)∧W2.cell? ⟨g,k * 4+3,none⟩=some (.slice bA f.body.length bc)∧z0h F W2 f.params pA pc∧RowS F W2 D d f.body bA bc):=zhi (fun k f hx=>by
  obtain ⟨g,pA,pc,bA,bc,hA,hFg,h0,h1,h2,h3,h4,h5⟩:=hf.2 k f hx
  exact ⟨g,pA,pc,bA,bc,hA,by rw [← hbb]; exact hF g hFg,hold hb1 h0,hold hb1 h1,hold hb1 h2,hold hb1 h3,z3g h4 (fun q hq=>hb1.block q (hF q hq)),RowS.keep (fun _ h=>h) (fun q hq=>hb1.block q (hF q hq)) h5⟩)
 have HFF:Hid (∀ q,F q→q<b+1):=zhi (fun q hq=>by have:=hF q hq; omega)
 have Hgl:=zhi hgl
 have Hfl:=zhi hfl
 have Hn:=zhi hn
 have Hm:=zhi hm
 have HW:=zhi hw
 have HR0:=zhi hr0
 have HB1:Hid (Below b W W2):=zhi (by rw [← hbb]; exact hb1)
 have hLl:=hl
 unfold fmtP at hLl
 rw [List.length_append] at hLl
 have HL:=zhi hLl
 have c0:=cell_of_row _ _ 0 _ _ _ hr0
 clear hg hf hn hm hF ht hgb hgl hfl hl hb0 hb1 hr0 hr1 hw hLl
 go_enter Tryz.func8,Tryz.ntmps8
 go_upto_region 2 with fail
 have Hbb:=zhi hbb
 clear hW2 hbb
 go_wp2_with fail
 clear c0
 go_loopw [13] (fun i wr=>∃ k:Nat,k≤n∧i=.int .i64 (k:Int)∧Hid (Wri (b+1) (b+1) ((0:Nat):Int) ((gl.take k).flatMap fmtG) wr)∧Hid (Wk (b+1) (b+1) W2 wr)) (fun i _=>n - (intOf i).toNat)
 case atStart=>exact ⟨0,Nat.zero_le _,rfl,HW,zhi (Wk.refl _ _ _)⟩
 case round =>
  obtain ⟨k,hk,rfl,hw,hkk⟩:=hrel
  by_cases hlt:k<n
  ·obtain ⟨x,hx⟩:∃ x,gl[k]?=some x:=⟨gl[k]'(by rw [Hn.out]; exact hlt),List.getElem?_eq_getElem _⟩
   obtain ⟨g,rfl,hgb,u0,u1⟩:=HGl.out k x hx
   have e0:wr.cell? ⟨g,k * 2,none⟩=some (.string x.1):=(World.cell?_of_block (hkk.out.bel.block g (by omega))).trans u0
   have e1:wr.cell? ⟨g,k * 2+1,none⟩=some (.int .i64 x.2):=(World.cell?_of_block (hkk.out.bel.block g (by omega))).trans u1
   obtain ⟨g1,g2,g3⟩:=Hgl.out x (List.mem_of_getElem? hx)
   have hb1:=(Below.refl _ wr).alloc (Nat.le_refl _) (.cells #[.string x.1,.int .i64 x.2] 51)
   have hft:=z2I fmtG gl k x hx
   have HC:=zhi (z6w x.1 x.2 (hw.out.next hb1) g2 g3 g1 (by have:=HL.out; omega))
   have HE:=zhi (z3P fmtG hx)
   have HKB:=zhi (hkk.out.trans (Wk.same (p:=b+1) hb1 hw.out.le))
   clear u0 u1 g1 g2 g3 hx hb1 hft
   go_wp2_with fail
   refine HC.out.mono ?_
   rintro e w2 ⟨rfl,h2,k2⟩
   have HW2:Hid (Wri (b+1) (b+1) ((0:Nat):Int) ((gl.take (k+1)).flatMap fmtG) w2):=zhi (by rw [HE.out]; exact h2.out)
   have HK2:=zhi (HKB.out.trans k2.out)
   clear HC HE HKB h2 k2 e0 e1
   go_wp2_with fail
   exact ⟨⟨k+1,by omega,by go_num,HW2,HK2⟩,by simp [intOf]; omega⟩
  ·obtain rfl:k=n:=by omega
   have HWg:Hid (Wri (b+1) (b+1) ((0:Nat):Int) (gl.flatMap fmtG) wr):=zhi (by
    have h:=hw.out
    rwa [List.take_of_length_le (by rw [Hn.out]; exact Nat.le_refl _)] at h)
   have hr:=(hkk.out.bel.block b (by omega)).trans HR0.out
   have c1:=cell_of_row _ _ 1 _ _ _ hr
   clear hr hw
   go_wp2_with fail
   clear c1
   go_loopw [24] (fun i wr=>∃ k:Nat,k≤m∧i=.int .i64 (k:Int)∧Hid (Wri (b+1) (b+1) ((0:Nat):Int) (gl.flatMap fmtG++(fl.take k).flatMap (fmtF D d)) wr)∧Hid (Wk (b+1) (b+1) W2 wr)) (fun i _=>m - (intOf i).toNat)
   case atStart=>exact ⟨0,Nat.zero_le _,rfl,zhi (by simpa using HWg.out),hkk⟩
   case round =>
    obtain ⟨j,hj,rfl,hw,hkk2⟩:=hrel
    by_cases hlt2:j<m
    ·obtain ⟨f,hx⟩:∃ f,fl[j]?=some f:=⟨fl[j]'(by rw [Hm.out]; exact hlt2),List.getElem?_eq_getElem _⟩
     obtain ⟨g,pA,pc,bA,bc,rfl,hgb,u0,u1,u2,u3,u4,u5⟩:=HFl.out j f hx
     have hh:∀ i v,W2.cell? ⟨g,i,none⟩=some v→wr.cell? ⟨g,i,none⟩=some v:=fun i v hv=>(World.cell?_of_block (hkk2.out.bel.block g (by omega))).trans hv
     have e0:=hh _ _ u0
     have e1:=hh _ _ u1
     have e2:=hh _ _ u2
     have e3:=hh _ _ u3
     have hb1:=(Below.refl _ wr).alloc (Nat.le_refl _) (.cells #[.string f.name,.int .i64 f.line,.slice pA f.params.length pc,.slice bA f.body.length bc] 54)
     have hKB:=hkk2.out.trans (Wk.same (p:=b+1) hb1 hw.out.le)
     have hft:=z2I (fmtF D d) fl j f hx
     have HC:=zhi (z5h f pA bA pc bc _ _ rfl rfl (z3g u4 (fun q hq=>hKB.bel.block q (HFF.out q hq))) (RowS.keep (fun _ h=>h) (fun q hq=>hKB.bel.block q (HFF.out q hq)) u5) HFF.out (Hfl.out f (List.mem_of_getElem? hx)) (hw.out.next hb1) (by have:=HL.out; rw [List.length_append]; omega))
     have HE:=zhi (z3P (fmtF D d) hx)
     have HKB:=zhi hKB
     clear u0 u1 u2 u3 u4 u5 hx hb1 hft hh hKB
     generalize f.params.length=n1 at *
     generalize f.body.length=n2 at *
     go_wp2_with fail
     refine HC.out.mono ?_
     rintro e w2 ⟨rfl,h2,k2⟩
     have HW2:Hid (Wri (b+1) (b+1) ((0:Nat):Int) (gl.flatMap fmtG++(fl.take (j+1)).flatMap (fmtF D d)) w2):=zhi (by rw [HE.out,← List.append_assoc]; exact h2.out)
     have HK2:=zhi (HKB.out.trans k2.out)
     clear HC HE HKB h2 k2 e0 e1 e2 e3
     go_wp2_with fail
     exact ⟨⟨j+1,by omega,by go_num,HW2,HK2⟩,by simp [intOf]; omega⟩
    ·obtain rfl:j=m:=by omega
     have hwf:Wri (b+1) (b+1) ((0:Nat):Int) (fmtP D d gl fl) wr:=by
      have h:=hw.out
      rwa [List.take_of_length_le (by rw [Hm.out]; exact Nat.le_refl _)] at h
     have hne:fmtP D d gl fl≠[]:=by
      have h1:=Hm.out
      cases fl with
      | nil=>simp at h1; omega
      | cons f r =>
       intro e
       have h2:=congrArg List.length e
       simp [fmtP,fmtF] at h2
     have HT:=zhi (zag (b+1) (b+1) _ (fmtP D d gl fl) wr hwf.wr hne)
     have HKe:=zhi (HB1.out.trans (hkk2.out.bel.mono (Nat.le_succ _)))
     clear hw hwf hne
     go_wp2_with fail
     refine HT.out.mono ?_
     rintro e w2 ⟨rfl,hb2⟩
     have HKF:=zhi (HKe.out.trans (hb2.mono (Nat.le_succ _)))
     clear HT hb2 HKe
     go_wp2_with fail
     go_ret
     exact z0x rfl (by rw [Hbb.out]; exact HKF.out)
end Go.Proofs.YtkeihncfmbicnaaGreatDoor
