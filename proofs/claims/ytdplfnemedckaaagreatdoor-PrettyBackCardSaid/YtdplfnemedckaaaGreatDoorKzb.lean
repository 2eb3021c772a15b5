/-
  Kzb: PrFo, PrSf, PbM. Walks and laws that the statement's proof is made of. No condition of its own.
-/
import Derived.Test.YtdplfnemedckaaaGreatDoorKza
import Derived.Test.YtdplfnemedckaaaGreatDoorKxa
namespace Go.Proofs.YtdplfnemedckaaaGreatDoor
open Go.RowKit
theorem ze9 {B p b:Nat} {w w':World} {cs:Array Value} {T:TypeId} (h:w.heap[b]?=some (.cells cs T (0,0))) (hT:T≠5) (hb:b≠p) (hk:Wk B p w w'):w'.heap[b]?=some (.cells cs T (0,0)):=(hk.oth b _ _ _ h hT hb).trans h
theorem zgt (s:ByteArray):fmtG (s,0)=[103,108,111,98,97,108,32]++s.data.toList++[59,10]:=by simp [fmtG]
theorem zgu (s:ByteArray) {z:Int} (h:0<z):fmtG (s,z)=[103,108,111,98,97,108,32]++s.data.toList++[91]++numL z.toNat++[93,59,10]:=by simp [fmtG,h]
set_option maxRecDepth 100000 in
set_option maxHeartbeats 2000000 in
theorem z7T {B p:Nat} {l:z03} {W:World} (s:ByteArray) (z:Int) (hw:Wri B p ((0:Nat):Int) l W) (h0:0≤z) (h1:z<9223372036854775808) (hs:s.size≤1000) (hl:l.length≤1000000000000) :
  Calls Tryz.prog 15 #[.pointer (some ⟨p,0,none⟩),.agg #[.string s,.int .i64 z]] W (z23 (.tuple #[]) B p ((0:Nat):Int) (l++fmtG (s,z)) W):=by
 have hb0:=(Below.refl _ W).alloc (Nat.le_refl _) (.cells #[.string s,.int .i64 z] 52)
 have hplt:=hw.wr.lt
 have hw1:=hw.next hb0
 have hk1:Wk B p W (W.alloc (.cells #[.string s,.int .i64 z] 52)):=Wk.same hb0 hw.le
 have hr1:=heap_alloc_new W (.cells #[.string s,.int .i64 z] 52)
 obtain ⟨W1,hW1⟩:∃ W1,W.alloc (.cells #[.string s,.int .i64 z] 52)=W1:=⟨_,rfl⟩
 obtain ⟨b,hb⟩:∃ b,W.heap.size=b:=⟨_,rfl⟩
 rw [hW1] at hw1 hk1 hr1
 rw [hb] at hr1 hplt
 obtain ⟨j0,j1⟩:=cl2 hr1
 have Hw1:=zhi hw1
 have Hk1:=zhi hk1
 have Hr1:=zhi hr1
 have HLn:=zhi (lnC hw1)
 have hbp:b≠p:=by omega
 have H0:=zhi h0
 have H1:=zhi h1
 clear hw hb0 hw1 hk1 hr1 h0 h1
 by_cases hz:z=0
 ·subst hz
  have HT:Hid (∀ t:ByteArray,t.data.toList=[103,108,111,98,97,108,32]++s.data.toList++[59]→l++lnT 0 t.data.toList=l++fmtG (s,0)):=zhi (fun t ht=>by rw [ht,zgt]; simp [lnT])
  go_enter Tryz.func15,Tryz.ntmps15
  go_upto_region 1 with fail
  clear hW1 hb
  go_wp2_with fail
  refine (HLn.out _ (by simp only [ByteArray.size_append]; show l.length+0+(7+s.size+1)≤_; omega)).mono ?_
  rintro e w4 ⟨rfl,h4,k4⟩
  rw [HT.out _ (by simp)] at h4
  have HK:=zhi (Hk1.out.trans k4.out)
  clear HT HLn k4
  go_wp2_with fail
  go_end0
  exact ⟨rfl,h4,HK⟩
 ·have hne:(z == 0)=false:=by simpa using hz
  have HT:Hid (∀ t:ByteArray,t.data.toList=[103,108,111,98,97,108,32]++s.data.toList++[91]++numL z.toNat++[93,59]→l++lnT 0 t.data.toList=l++fmtG (s,z)):=zhi (fun t ht=>by rw [ht,zgu s (by have:=H0.out; omega)]; simp [lnT])
  have Hz:=zhi hz
  clear hz
  have HI:=zhi (z8x z H0.out H1.out W1.drew Hw1.out.drew.tab)
  have HN:=zhi (z1z (n:=z.toNat) (by have:=H1.out; omega))
  have hS0:W1.drew.cell? ⟨b,0,none⟩=some (.string s)∧W1.drew.cell? ⟨b,1,none⟩=some (.int .i64 z):=⟨cell_of_row _ _ 0 _ _ _ Hr1.out,cell_of_row _ _ 1 _ _ _ Hr1.out⟩
  have hf3:(9223372036854775807<7+s.size)=False:=z1o (m:=1007) (by omega) (by decide)
  have hf4:(9223372036854775807<7+s.size+1)=False:=z1o (m:=1008) (by omega) (by decide)
  clear HLn
  go_enter Tryz.func15,Tryz.ntmps15
  go_upto_region 3 with fail
  clear hW1 hb
  go_region_held3 (fun w'=>w'.cell? ⟨b,0,none⟩=some (.string s)∧w'.cell? ⟨b,1,none⟩=some (.int .i64 z))
   (first | (with_reducible exact hS0) | (with_reducible exact hS4) | (with_reducible exact hS5))
   (first
    | (go_at_call 29; refine HI.out.mono ?_; rintro e w4 ⟨Y,rfl,hY,hb4⟩; have HW4:=zhi (Hw1.out.drew.next hb4); have HK4:=zhi (Hk1.out.drew.trans (Wk.same (p:=p) hb4 Hw1.out.drew.le)); have HR4:=zhi ((hb4.block b (Array.getElem?_eq_some_iff.1 Hr1.out).1).trans Hr1.out); have hS4:w4.cell? ⟨b,0,none⟩=some (.string s)∧w4.cell? ⟨b,1,none⟩=some (.int .i64 z):=⟨cell_of_row _ _ 0 _ _ _ HR4.out,cell_of_row _ _ 1 _ _ _ HR4.out⟩; have hYz:Y.size≤19:=(Nat.le_trans (Nat.le_of_eq (z0V hY.out)) HN.out); have HLn:=zhi (lnC HW4.out); have hf5:(9223372036854775807<7+s.size+1+Y.size)=False:=z1o (m:=1027) (by omega) (by decide); have hf6:(9223372036854775807<7+s.size+1+Y.size+2)=False:=z1o (m:=1029) (by omega) (by decide); clear hb4)
    | (go_at_call 28; refine (HLn.out _ (by simp only [ByteArray.size_append]; show l.length+0+(7+s.size+1+Y.size+2)≤_; omega)).mono ?_; rintro e w6 ⟨rfl,h6,k6⟩; have hS5:w6.cell? ⟨b,0,none⟩=some (.string s)∧w6.cell? ⟨b,1,none⟩=some (.int .i64 z):=(by have hr:=ze9 HR4.out (by decide) hbp k6.out; exact ⟨cell_of_row _ _ 0 _ _ _ hr,cell_of_row _ _ 1 _ _ _ hr⟩); have HK6:=zhi (HK4.out.trans k6.out); rw [HT.out _ (by simp [hY.out])] at h6))
  clear HT HI hf3 hf4 hf5 hf6
  go_wp2_with fail
  go_end0
  exact ⟨rfl,h6,HK6⟩
theorem zgD {F:Nat→Prop} {w:World} {ps:List ByteArray} {A:Option Addr} {c n:Nat} (h:z0y F w ps A c) (hn:ps.length=n) (hl:(jl (ps.map (·.data.toList))).length≤1099511627776) (hn1:n≤1000) :
  Calls Tryz.prog 30 #[.slice A n c,.string ⟨#[44,32]⟩] w (z39 (jl (ps.map (·.data.toList))) w):=by
 subst hn
 cases ps with
 | nil =>
  exact (Tryz.strings_Join_none A c ⟨#[44,32]⟩ w).mono fun e w' ⟨h1,h2⟩=>by
   subst h1 h2
   exact z3x (by simp [jl,List.intercalate]) (Below.refl _ _)
 | cons p ps =>
  obtain ⟨g,rfl,_,hc⟩:=h.2 0 p rfl
  refine (Tryz.strings_Join g 0 c (p :: ps) ⟨#[44,32]⟩ w (fun j x hx=>?_) (World.block_lt_of_cell? _ _ hc) (by omega) h.1 (Nat.le_trans hl (by decide))).mono fun e w' ⟨h1,h2⟩=>?_
  ·obtain ⟨g2,e,_,hc2⟩:=h.2 j x hx
   injection e with e
   injection e with e _ _
   subst e
   simpa using hc2
  ·subst h1
   exact z3x (by simp [jl,Lib.join]) h2
def ShFq (D d:Nat) (f:Fn):Prop:=f.name.size≤1000∧f.params.length≤1000∧f.body.length≤1000∧∀ t∈f.body,ShQ D d t
theorem zaI (D d:Nat) (f:Fn):fmtF D d f=lnT 0 ([102,117,110,99,32]++f.name.data.toList++[40]++jl (f.params.map (·.data.toList))++[41,32,123])++fmtB D d f.body (List.replicate (0+1) 9)++lnT 0 [125]:=by simp [fmtF,lnT]
theorem z4l {F:Nat→Prop} {w w':World} {l:List ByteArray} {A:Option Addr} {c:Nat} (h:z0y F w l A c) (hk:∀ q,F q→w'.heap[q]?=w.heap[q]?):z0y F w' l A c :=
 ⟨h.1,fun i x hx=>by
  obtain ⟨g,hA,hg,hc⟩:=h.2 i x hx
  exact ⟨g,hA,hg,(World.cell?_of_block (hk g hg)).trans hc⟩⟩
set_option maxRecDepth 100000 in
set_option maxHeartbeats 2000000 in
theorem z6h {F:Nat→Prop} {D d:Nat} {B p:Nat} {l:z03} {W:World} (f:Fn) (pA bA:Option Addr) (pc bc n m:Nat) (hn:f.params.length=n) (hm:f.body.length=m) (hp:z0y F W f.params pA pc) (hb:RowS F W D d f.body bA bc) (hF:∀ q,F q→q<B) (hs:ShFq D d f) (hw:Wri B p ((0:Nat):Int) l W) (hl:l.length+(fmtF D d f).length≤1000000000000) :
  Calls Tryz.prog 16 #[.pointer (some ⟨p,0,none⟩),.agg #[.string f.name,.int .i64 f.line,.slice pA n pc,.slice bA m bc]] W (z23 (.tuple #[]) B p ((0:Nat):Int) (l++fmtF D d f) W):=by
 obtain ⟨hs1,hs2,hs3,hs4⟩:=hs
 rw [hn] at hs2
 rw [hm] at hs3
 have hb0:=(Below.refl _ W).alloc (Nat.le_refl _) (.cells #[.string f.name,.int .i64 f.line,.slice pA n pc,.slice bA m bc] 55)
 have hplt:=hw.wr.lt
 have hw1:=hw.next hb0
 have hk1:Wk B p W (W.alloc (.cells #[.string f.name,.int .i64 f.line,.slice pA n pc,.slice bA m bc] 55)):=Wk.same hb0 hw.le
 have hr1:=heap_alloc_new W (.cells #[.string f.name,.int .i64 f.line,.slice pA n pc,.slice bA m bc] 55)
 obtain ⟨W1,hW1⟩:∃ W1,W.alloc (.cells #[.string f.name,.int .i64 f.line,.slice pA n pc,.slice bA m bc] 55)=W1:=⟨_,rfl⟩
 obtain ⟨b,hbb⟩:∃ b,W.heap.size=b:=⟨_,rfl⟩
 rw [hW1] at hw1 hk1 hr1
 rw [hbb] at hr1 hplt
 have hbp:b≠p:=by omega
 have hL:=hl
 rw [zaI] at hL
 simp only [List.length_append,List.length_cons,List.length_nil,lnT,List.length_replicate] at hL
 have hpd:z0y F W1.drew f.params pA pc:=z4l hp (fun q hq=>hk1.bel.block q (hF q hq))
 have HJ:=zhi (zgD hpd hn (by omega) hs2)
 have HRB:Hid (∀ w',Wk B p W w'→RowS F w' D d f.body bA bc):=zhi (fun w' h=>RowS.keep (fun _ h=>h) (fun q hq=>h.bel.block q (hF q hq)) hb)
 obtain ⟨J,hJ⟩:∃ J,jl (f.params.map (·.data.toList))=J:=⟨_,rfl⟩
 obtain ⟨fl,hfl⟩:∃ fl,f.line=fl:=⟨_,rfl⟩
 obtain ⟨fnm,hfn⟩:∃ fnm,f.name=fnm:=⟨_,rfl⟩
 have hT0:∀ t:ByteArray,t.data.toList=[102,117,110,99,32]++fnm.data.toList++[40]++J++[41,32,123]→l++lnT 0 t.data.toList++fmtB D d f.body (List.replicate (0+1) 9)++lnT 0 (⟨#[125]⟩:ByteArray).data.toList=l++fmtF D d f:=fun t ht=>by
  rw [ht,zaI,← hJ,← hfn]
  simp
 have HT:=zhi hT0
 rw [hJ] at HJ hL
 rw [hfn] at hs1 hL
 have hfz:fnm.data.toList.length=fnm.size:=by simp
 have Hw1:=zhi hw1
 have Hk1:=zhi hk1
 have Hr1:=zhi hr1
 have Hm:=zhi hm
 have HF:=zhi hF
 have Hs4:=zhi hs4
 have hLJ:l.length+(5+fnm.size+1+J.length+3+1)+(fmtB D d f.body (List.replicate (0+1) 9)).length+2≤1000000000000:=by omega
 have HLB:=zhi hLJ
 have hJz:J.length≤1000000000000:=by omega
 have hS0:W1.drew.cell? ⟨b,0,none⟩=some (.string fnm)∧W1.drew.cell? ⟨b,2,none⟩=some (.slice pA n pc):=⟨(cell_of_row _ _ 0 _ _ _ Hr1.out).trans (by rw [← hfn]; rfl),cell_of_row _ _ 2 _ _ _ Hr1.out⟩
 have HLT:Hid (∀ s:Nat,s≤l.length+(5+fnm.size+1+J.length+3)→s≤1000000010000):=zhi (fun s h=>by omega)
 have hf3:(9223372036854775807<5+fnm.size)=False:=z1o (m:=1007) (by omega) (by decide)
 have hf4:(9223372036854775807<5+fnm.size+1)=False:=z1o (m:=1008) (by omega) (by decide)
 have hrow:(⟨b,0,none⟩:Addr)=⟨b,0,none⟩:=rfl
 clear hp hb hw hb0 hw1 hk1 hr1 hs4 hL hl hpd hn hm hF hT0 hLJ hfz hrow hJ
 rw [hfn,hfl]
 rw [hfn,hfl] at Hr1
 go_enter Tryz.func16,Tryz.ntmps16
 rw [hfn,hfl] at hW1
 go_upto_region 1 with fail
 clear hW1 hbb hfn hfl
 go_region_held3 (fun w'=>w'.cell? ⟨b,0,none⟩=some (.string fnm)∧w'.cell? ⟨b,2,none⟩=some (.slice pA n pc))
  (first | (with_reducible exact hS0) | (with_reducible exact hS4) | (with_reducible exact hS5))
  (first
   | (go_at_call 30; refine HJ.out.mono ?_; rintro e w4 ⟨Y,rfl,hY,hb4⟩; have HW4:=zhi (Hw1.out.drew.next hb4); have HK4:=zhi (Hk1.out.drew.trans (Wk.same (p:=p) hb4 Hw1.out.drew.le)); have HR4:=zhi ((hb4.block b (Array.getElem?_eq_some_iff.1 Hr1.out).1).trans Hr1.out); have hS4:w4.cell? ⟨b,0,none⟩=some (.string fnm)∧w4.cell? ⟨b,2,none⟩=some (.slice pA n pc):=⟨cell_of_row _ _ 0 _ _ _ HR4.out,cell_of_row _ _ 2 _ _ _ HR4.out⟩; have hYz:Y.size≤1000000000000:=(Nat.le_trans (Nat.le_of_eq (z0V hY.out)) hJz); have HYz:=zhi (z0V hY.out); have HLn:=zhi (lnC HW4.out); have hf5:(9223372036854775807<5+fnm.size+1+Y.size)=False:=z1o (m:=1000000001027) (by omega) (by decide); have hf6:(9223372036854775807<5+fnm.size+1+Y.size+3)=False:=z1o (m:=1000000001030) (by omega) (by decide); clear hb4)
   | (go_at_call 28; refine (HLn.out _ (by simp only [ByteArray.size_append]; show l.length+0+(5+fnm.size+1+Y.size+3)≤_; refine HLT.out _ ?_; rw [HYz.out]; exact Nat.le_refl _)).mono ?_; rintro e w6 ⟨rfl,h6,k6⟩; have HR6:=zhi (ze9 HR4.out (by decide) hbp k6.out); have hS5:w6.cell? ⟨b,0,none⟩=some (.string fnm)∧w6.cell? ⟨b,2,none⟩=some (.slice pA n pc):=⟨cell_of_row _ _ 0 _ _ _ HR6.out,cell_of_row _ _ 2 _ _ _ HR6.out⟩; have HK6:=zhi (HK4.out.trans k6.out)))
 have e6:(⟨#[102,117,110,99,32]⟩++fnm++⟨#[40]⟩++Y++⟨#[41,32,123]⟩:ByteArray).data.toList.length=5+fnm.size+1+J.length+3:=by
  have h1:(⟨#[102,117,110,99,32]⟩++fnm++⟨#[40]⟩++Y++⟨#[41,32,123]⟩:ByteArray).data.toList.length=(⟨#[102,117,110,99,32]⟩++fnm++⟨#[40]⟩++Y++⟨#[41,32,123]⟩:ByteArray).size:=(Lib.size_eq _).symm
  rw [h1]
  simp only [ByteArray.size_append]
  rw [HYz.out]
  rfl
 have HT2:=zhi (HT.out (⟨#[102,117,110,99,32]⟩++fnm++⟨#[40]⟩++Y++⟨#[41,32,123]⟩) (by simp [hY.out]))
 obtain ⟨T,hTt⟩:∃ T,(⟨#[102,117,110,99,32]⟩++fnm++⟨#[40]⟩++Y++⟨#[41,32,123]⟩:ByteArray).data.toList=T:=⟨_,rfl⟩
 rw [hTt] at e6 HT2 h6
 have hz6:(l++lnT 0 T).length+(fmtB D d f.body (List.replicate (0+1) 9)).length≤999999999998:=by
  have h1:=HLB.out
  simp only [lnT,List.length_append,List.length_replicate,List.length_cons,List.length_nil]
  omega
 have c3:=cell_of_row _ _ 3 _ _ _ HR6.out
 have HC:=zhi (ze8 D d F f.body bA m bc B p 0 _ w6 (HRB.out w6 HK6.out) Hm.out HF.out Hs4.out hs3 h6.out (by omega) (by omega))
 have HZ6:=zhi hz6
 clear e6 hTt h6 HT HJ hf3 hf4 hf5 hf6 hz6 hS0 hS4 hS5 HLT HYz hYz hJz hY
 dsimp only [Exit.then]
 go_wp2_with fail
 refine HC.out.mono ?_
 rintro e w7 ⟨rfl,h7,k7⟩
 have HD:=zhi (lnC h7.out ⟨#[125]⟩ (by have:=HZ6.out; simp only [List.length_append] at this ⊢; show _+0+1≤_; omega))
 have HK7:=zhi (HK6.out.trans k7.out)
 clear HC h7 k7 HK6 c3
 go_wp2_with fail
 refine HD.out.mono ?_
 rintro e w8 ⟨rfl,h8,k8⟩
 rw [HT2.out] at h8
 have HK8:=zhi (HK7.out.trans k8.out)
 clear HD k8 HK7 HT2
 go_wp2_with fail
 go_end0
 exact ⟨rfl,h8,HK8⟩
set_option maxRecDepth 100000 in
set_option maxHeartbeats 2000000 in
theorem z5t {F:Nat→Prop} {D d:Nat} (gl:List (ByteArray × Int)) (fl:List Fn) (gA fA:Option Addr) (gc fc n m:Nat) (W:World) (hg:z0E F W gl gA gc) (hf:z1V F W D d fl fA fc) (hn:gl.length=n) (hm:fl.length=m) (hF:∀ q,F q→q<W.heap.size) (ht:PowT W) (hgb:1<W.heap.size)
  (hgl:∀ x∈gl,x.1.size≤1000∧0≤x.2∧x.2<9223372036854775808) (hfl:∀ f∈fl,ShFq D d f) (hm1:1≤m) (hn2:n≤1000000) (hm2:m≤1000000) (hl:(fmtP D d gl fl).length≤1000000000000) :
  Calls Tryz.prog 7 #[.agg #[.slice gA n gc,.slice fA m fc]] W (z39 (fmtP D d gl fl) W):=by
 have hgc:n≤gc:=by rw [← hn]; exact hg.1
 have hfc:m≤fc:=by rw [← hm]; exact hf.1
 have hb0:=(Below.refl _ W).alloc (Nat.le_refl _) (.cells #[.slice gA n gc,.slice fA m fc] 29)
 have hb1:=hb0.alloc (by simp) (.cells #[.pointer none,.slice none 0 0,.int .i64 0] 62)
 have hr0:=z0G W (.cells #[.slice gA n gc,.slice fA m fc] 29) (.cells #[.pointer none,.slice none 0 0,.int .i64 0] 62)
 have hr1:=z0F W (.cells #[.slice gA n gc,.slice fA m fc] 29) (.cells #[.pointer none,.slice none 0 0,.int .i64 0] 62)
 have hw:Wri (W.heap.size+1) (W.heap.size+1) ((0:Nat):Int) [] ((W.alloc (.cells #[.slice gA n gc,.slice fA m fc] 29)).alloc (.cells #[.pointer none,.slice none 0 0,.int .i64 0] 62)):=⟨.inl ⟨Nat.le_refl _,_,hr1,World.ownsRow_nil _ _ _ _⟩,ht.next (hb1.mono (Nat.le_refl _)) hgb,by omega⟩
 obtain ⟨W2,hW2⟩:∃ W2,(W.alloc (.cells #[.slice gA n gc,.slice fA m fc] 29)).alloc (.cells #[.pointer none,.slice none 0 0,.int .i64 0] 62)=W2:=⟨_,rfl⟩
 rw [hW2] at hr0 hr1 hw hb1
 obtain ⟨b,hbb⟩:∃ b,W.heap.size=b:=⟨_,rfl⟩
 rw [hbb] at hr0 hr1 hw
 have HGl:Hid (∀ k x,gl[k]?=some x→∃ g,gA=some ⟨g,0,none⟩∧g<b∧W2.cell? ⟨g,k * 2,none⟩=some (.string x.1)∧W2.cell? ⟨g,k * 2+1,none⟩=some (.int .i64 x.2)):=zhi (fun k x hx=>by
  obtain ⟨g,hA,hFg,h0,h1⟩:=hg.2 k x hx
  exact ⟨g,hA,by rw [← hbb]; exact hF g hFg,hold hb1 h0,hold hb1 h1⟩)
 have HFl:Hid (∀ k f,fl[k]?=some f→∃ g pA pc bA bc,fA=some ⟨g,0,none⟩∧g<b∧W2.cell? ⟨g,k * 4,none⟩=some (.string f.name)∧W2.cell? ⟨g,k * 4+1,none⟩=some (.int .i64 f.line)∧W2.cell? ⟨g,k * 4+2,none⟩=some (.slice pA f.params.length pc)∧W2.cell? ⟨g,k * 4+3,none⟩=some (.slice bA f.body.length bc)∧z0y F W2 f.params pA pc∧RowS F W2 D d f.body bA bc):=zhi (fun k f hx=>by
  obtain ⟨g,pA,pc,bA,bc,hA,hFg,h0,h1,h2,h3,h4,h5⟩:=hf.2 k f hx
  exact ⟨g,pA,pc,bA,bc,hA,by rw [← hbb]; exact hF g hFg,hold hb1 h0,hold hb1 h1,hold hb1 h2,hold hb1 h3,z4l h4 (fun q hq=>hb1.block q (hF q hq)),RowS.keep (fun _ h=>h) (fun q hq=>hb1.block q (hF q hq)) h5⟩)
 have HFF:Hid (∀ q,F q→q<b+1):=zhi (fun q hq=>by have:=hF q hq; omega)
 have Hgl:=zhi hgl
 have Hfl:=zhi hfl
 have Hn:=zhi hn
 have Hm:=zhi hm
 have HW:=zhi hw
 have HR0:=zhi hr0
 have HB1:Hid (Below b W W2):=zhi (by rw [← hbb]; exact hb1)
 have hLl:=hl
 unfold fmtP at hLl
 rw [List.length_append] at hLl
 have HL:=zhi hLl
 have c0:=cell_of_row _ _ 0 _ _ _ hr0
 clear hg hf hn hm hF ht hgb hgl hfl hl hb0 hb1 hr0 hr1 hw hLl
 go_enter Tryz.func7,Tryz.ntmps7
 go_upto_region 2 with fail
 have Hbb:=zhi hbb
 clear hW2 hbb
 go_wp2_with fail
 clear c0
 go_loopw [13] (fun i wr=>∃ k:Nat,k≤n∧i=.int .i64 (k:Int)∧Hid (Wri (b+1) (b+1) ((0:Nat):Int) ((gl.take k).flatMap fmtG) wr)∧Hid (Wk (b+1) (b+1) W2 wr)) (fun i _=>n - (intOf i).toNat)
 case atStart=>exact ⟨0,Nat.zero_le _,rfl,HW,zhi (Wk.refl _ _ _)⟩
 case round =>
  obtain ⟨k,hk,rfl,hw,hkk⟩:=hrel
  by_cases hlt:k<n
  ·obtain ⟨x,hx⟩:∃ x,gl[k]?=some x:=⟨gl[k]'(by rw [Hn.out]; exact hlt),List.getElem?_eq_getElem _⟩
   obtain ⟨g,rfl,hgb,u0,u1⟩:=HGl.out k x hx
   have e0:wr.cell? ⟨g,k * 2,none⟩=some (.string x.1):=(World.cell?_of_block (hkk.out.bel.block g (by omega))).trans u0
   have e1:wr.cell? ⟨g,k * 2+1,none⟩=some (.int .i64 x.2):=(World.cell?_of_block (hkk.out.bel.block g (by omega))).trans u1
   obtain ⟨g1,g2,g3⟩:=Hgl.out x (List.mem_of_getElem? hx)
   have hb1:=(Below.refl _ wr).alloc (Nat.le_refl _) (.cells #[.string x.1,.int .i64 x.2] 52)
   have hft:=z3N fmtG gl k x hx
   have HC:=zhi (z7T x.1 x.2 (hw.out.next hb1) g2 g3 g1 (by have:=HL.out; omega))
   have HE:=zhi (z4U fmtG hx)
   have HKB:=zhi (hkk.out.trans (Wk.same (p:=b+1) hb1 hw.out.le))
   clear u0 u1 g1 g2 g3 hx hb1 hft
   go_wp2_with fail
   refine HC.out.mono ?_
   rintro e w2 ⟨rfl,h2,k2⟩
   have HW2:Hid (Wri (b+1) (b+1) ((0:Nat):Int) ((gl.take (k+1)).flatMap fmtG) w2):=zhi (by rw [HE.out]; exact h2.out)
   have HK2:=zhi (HKB.out.trans k2.out)
   clear HC HE HKB h2 k2 e0 e1
   go_wp2_with fail
   exact ⟨⟨k+1,by omega,by go_num,HW2,HK2⟩,by simp [intOf]; omega⟩
  ·obtain rfl:k=n:=by omega
   have HWg:Hid (Wri (b+1) (b+1) ((0:Nat):Int) (gl.flatMap fmtG) wr):=zhi (by
    have h:=hw.out
    rwa [List.take_of_length_le (by rw [Hn.out]; exact Nat.le_refl _)] at h)
   have hr:=(hkk.out.bel.block b (by omega)).trans HR0.out
   have c1:=cell_of_row _ _ 1 _ _ _ hr
   clear hr hw
   go_wp2_with fail
   clear c1
   go_loopw [24] (fun i wr=>∃ k:Nat,k≤m∧i=.int .i64 (k:Int)∧Hid (Wri (b+1) (b+1) ((0:Nat):Int) (gl.flatMap fmtG++(fl.take k).flatMap (fmtF D d)) wr)∧Hid (Wk (b+1) (b+1) W2 wr)) (fun i _=>m - (intOf i).toNat)
   case atStart=>exact ⟨0,Nat.zero_le _,rfl,zhi (by simpa using HWg.out),hkk⟩
   case round =>
    obtain ⟨j,hj,rfl,hw,hkk2⟩:=hrel
    by_cases hlt2:j<m
    ·obtain ⟨f,hx⟩:∃ f,fl[j]?=some f:=⟨fl[j]'(by rw [Hm.out]; exact hlt2),List.getElem?_eq_getElem _⟩
     obtain ⟨g,pA,pc,bA,bc,rfl,hgb,u0,u1,u2,u3,u4,u5⟩:=HFl.out j f hx
     have hh:∀ i v,W2.cell? ⟨g,i,none⟩=some v→wr.cell? ⟨g,i,none⟩=some v:=fun i v hv=>(World.cell?_of_block (hkk2.out.bel.block g (by omega))).trans hv
     have e0:=hh _ _ u0
     have e1:=hh _ _ u1
     have e2:=hh _ _ u2
     have e3:=hh _ _ u3
     have hb1:=(Below.refl _ wr).alloc (Nat.le_refl _) (.cells #[.string f.name,.int .i64 f.line,.slice pA f.params.length pc,.slice bA f.body.length bc] 55)
     have hKB:=hkk2.out.trans (Wk.same (p:=b+1) hb1 hw.out.le)
     have hft:=z3N (fmtF D d) fl j f hx
     have HC:=zhi (z6h f pA bA pc bc _ _ rfl rfl (z4l u4 (fun q hq=>hKB.bel.block q (HFF.out q hq))) (RowS.keep (fun _ h=>h) (fun q hq=>hKB.bel.block q (HFF.out q hq)) u5) HFF.out (Hfl.out f (List.mem_of_getElem? hx)) (hw.out.next hb1) (by have:=HL.out; rw [List.length_append]; omega))
     have HE:=zhi (z4U (fmtF D d) hx)
     have HKB:=zhi hKB
     clear u0 u1 u2 u3 u4 u5 hx hb1 hft hh hKB
     generalize f.params.length=n1 at *
     generalize f.body.length=n2 at *
     go_wp2_with fail
     refine HC.out.mono ?_
     rintro e w2 ⟨rfl,h2,k2⟩
     have HW2:Hid (Wri (b+1) (b+1) ((0:Nat):Int) (gl.flatMap fmtG++(fl.take (j+1)).flatMap (fmtF D d)) w2):=zhi (by rw [HE.out,← List.append_assoc]; exact h2.out)
     have HK2:=zhi (HKB.out.trans k2.out)
     clear HC HE HKB h2 k2 e0 e1 e2 e3
     go_wp2_with fail
     exact ⟨⟨j+1,by omega,by go_num,HW2,HK2⟩,by simp [intOf]; omega⟩
    ·obtain rfl:j=m:=by omega
     have hwf:Wri (b+1) (b+1) ((0:Nat):Int) (fmtP D d gl fl) wr:=by
      have h:=hw.out
      rwa [List.take_of_length_le (by rw [Hm.out]; exact Nat.le_refl _)] at h
     have hne:fmtP D d gl fl≠[]:=by
      have h1:=Hm.out
      cases fl with
      | nil=>simp at h1; omega
      | cons f r =>
       intro e
       have h2:=congrArg List.length e
       simp [fmtP,fmtF] at h2
     have HT:=zhi (zcv (b+1) (b+1) _ (fmtP D d gl fl) wr hwf.wr hne)
     have HKe:=zhi (HB1.out.trans (hkk2.out.bel.mono (Nat.le_succ _)))
     clear hw hwf hne
     go_wp2_with fail
     refine HT.out.mono ?_
     rintro e w2 ⟨rfl,hb2⟩
     have HKF:=zhi (HKe.out.trans (hb2.mono (Nat.le_succ _)))
     clear HT hb2 HKe
     go_wp2_with fail
     go_ret
     exact z3x rfl (by rw [Hbb.out]; exact HKF.out)
end Go.Proofs.YtdplfnemedckaaaGreatDoor
namespace Go.Proofs.YtdplfnemedckaaaGreatDoor
open Go.RowKit
def RetD (w:World) (e:Ending) (w':World):Prop:=e=.returned (.bool true)∧∃ q,w'=w.drewN q
set_option maxRecDepth 10000 in
theorem zaw {F G:Nat→Prop} {W:World} (ps:List ByteArray) (A1 A2:Option Addr) (c1 c2 n:Nat) (hn:ps.length=n) (h1:z0y F W ps A1 c1) (h2:z0y G W ps A2 c2) (hn1:n≤1000) :
  Calls Tryz.prog 38 #[.slice A1 n c1,.slice A2 n c2] W (RetD W):=by
 have hc1:n≤c1:=by rw [← hn]; exact h1.1
 have hc2:n≤c2:=by rw [← hn]; exact h2.1
 have H1:=zhi h1
 have H2:=zhi h2
 have Hn:=zhi hn
 clear h1 h2 hn
 go_enter Tryz.func38,Tryz.ntmps38
 go_wp2_with fail
 go_loopw [13] (fun i wr=>∃ (k q:Nat),k≤n∧i=.int .i64 (k:Int)∧wr=W.drewN q) (fun i _=>n - (intOf i).toNat)
 case atStart=>exact ⟨0,0,Nat.zero_le _,rfl,rfl⟩
 case round =>
  obtain ⟨k,q,hk,rfl,rfl⟩:=hrel
  by_cases hlt:k<n
  ·obtain ⟨x,hx⟩:∃ x,ps[k]?=some x:=⟨ps[k]'(by rw [Hn.out]; exact hlt),List.getElem?_eq_getElem _⟩
   obtain ⟨g,rfl,_,p0⟩:=H1.out.2 k x hx
   obtain ⟨g2,rfl,_,q0⟩:=H2.out.2 k x hx
   clear hx
   go_upto_region 6 with fail
   go_quiet (fail)
   go_wp2_with fail
   first | exact ⟨⟨k+1,_,by omega,by go_num,World.drewN_drewN _ _ _⟩,by simp [intOf]; omega⟩ | exact ⟨⟨k+1,_,by omega,by go_num,rfl⟩,by simp [intOf]; omega⟩
  ·obtain rfl:k=n:=by omega
   go_wp2_with fail
   go_ret
   first | exact ⟨rfl,_,World.drewN_drewN _ _ _⟩ | exact ⟨rfl,_,rfl⟩
set_option maxRecDepth 10000 in
theorem zcR {F G:Nat→Prop} {W:World} (gl:List (ByteArray × Int)) (A1 A2:Option Addr) (c1 c2 n:Nat) (hn:gl.length=n) (h1:z0E F W gl A1 c1) (h2:z0E G W gl A2 c2) (hn1:n≤1000000) :
  Calls Tryz.prog 20 #[.slice A1 n c1,.slice A2 n c2] W (RetD W):=by
 have hc1:n≤c1:=by rw [← hn]; exact h1.1
 have hc2:n≤c2:=by rw [← hn]; exact h2.1
 have H1:=zhi h1
 have H2:=zhi h2
 have Hn:=zhi hn
 clear h1 h2 hn
 go_enter Tryz.func20,Tryz.ntmps20
 go_wp2_with fail
 go_loopw [13] (fun i wr=>∃ (k q:Nat),k≤n∧i=.int .i64 (k:Int)∧wr=W.drewN q) (fun i _=>n - (intOf i).toNat)
 case atStart=>exact ⟨0,0,Nat.zero_le _,rfl,rfl⟩
 case round =>
  obtain ⟨k,q,hk,rfl,rfl⟩:=hrel
  by_cases hlt:k<n
  ·obtain ⟨x,hx⟩:∃ x,gl[k]?=some x:=⟨gl[k]'(by rw [Hn.out]; exact hlt),List.getElem?_eq_getElem _⟩
   obtain ⟨g,rfl,_,p0,p1⟩:=H1.out.2 k x hx
   obtain ⟨g2,rfl,_,q0,q1⟩:=H2.out.2 k x hx
   clear hx
   go_upto_region 6 with fail
   go_quiet (fail)
   go_wp2_with fail
   first | exact ⟨⟨k+1,_,by omega,by go_num,World.drewN_drewN _ _ _⟩,by simp [intOf]; omega⟩ | exact ⟨⟨k+1,_,by omega,by go_num,rfl⟩,by simp [intOf]; omega⟩
  ·obtain rfl:k=n:=by omega
   go_wp2_with fail
   go_ret
   first | exact ⟨rfl,_,World.drewN_drewN _ _ _⟩ | exact ⟨rfl,_,rfl⟩
theorem z3j {F:Nat→Prop} {w w':World} {l:List ByteArray} {A:Option Addr} {c:Nat} (h:z0y F w l A c) (hk:∀ q,F q→w'.heap[q]?=w.heap[q]?):z0y F w' l A c :=
 ⟨h.1,fun i x hx=>by
  obtain ⟨g,hA,hg,hc⟩:=h.2 i x hx
  exact ⟨g,hA,hg,(World.cell?_of_block (hk g hg)).trans hc⟩⟩
set_option maxRecDepth 100000 in
set_option maxHeartbeats 2000000 in
theorem z7c {F G:Nat→Prop} {D d:Nat} {W:World} (nm:ByteArray) (l1 l2:Int) (ps:List ByteArray) (xs ys:List St) (pA pB bA bB:Option Addr) (pc pc2 bc bc2 n m:Nat) (hn:ps.length=n) (hm:xs.length=m) (hxy:rlM xs=rlM ys)
  (hp1:z0y F W ps pA pc) (hp2:z0y G W ps pB pc2) (h1:RowS F W D d xs bA bc) (h2:RowS G W D d ys bB bc2) (hF:∀ q,F q→q<W.heap.size) (hG:∀ q,G q→q<W.heap.size) (hs:∀ x∈xs,ShQ D d x) (hn1:n≤1000) (hm1:m≤1000) :
  Calls Tryz.prog 22 #[.agg #[.string nm,.int .i64 l1,.slice pA n pc,.slice bA m bc],.agg #[.string nm,.int .i64 l2,.slice pB n pc2,.slice bB m bc2]] W (RetV (.bool true) W):=by
 have hb1:=(Below.refl _ W).alloc (Nat.le_refl _) (.cells #[.string nm,.int .i64 l1,.slice pA n pc,.slice bA m bc] 55)
 have hb2:=hb1.alloc (by simp) (.cells #[.string nm,.int .i64 l2,.slice pB n pc2,.slice bB m bc2] 55)
 have q1:=z0G W (.cells #[.string nm,.int .i64 l1,.slice pA n pc,.slice bA m bc] 55) (.cells #[.string nm,.int .i64 l2,.slice pB n pc2,.slice bB m bc2] 55)
 have q2:=z0F W (.cells #[.string nm,.int .i64 l1,.slice pA n pc,.slice bA m bc] 55) (.cells #[.string nm,.int .i64 l2,.slice pB n pc2,.slice bB m bc2] 55)
 have HP:=zhi (zaw ps pA pB pc pc2 n hn (z3j hp1 (fun q hq=>hb2.block q (hF q hq))) (z3j hp2 (fun q hq=>hb2.block q (hG q hq))) hn1)
 have HS:=zhi (fun V (hV:Below W.heap.size W V)=>z57 (zc4 D d) F G xs ys hxy bA bB bc bc2 m V (RowS.keep (fun _ h=>h) (fun q hq=>hV.block q (hF q hq)) h1) (RowS.keep (fun _ h=>h) (fun q hq=>hV.block q (hG q hq)) h2) (fun q hq=>Nat.lt_of_lt_of_le (hF q hq) hV.size) (fun q hq=>Nat.lt_of_lt_of_le (hG q hq) hV.size) hs hm hm1)
 have HB:=zhi hb2
 have Q1:=zhi q1
 have Q2:=zhi q2
 have a0:=cell_of_row _ _ 0 _ _ _ q1
 have a2:=cell_of_row _ _ 2 _ _ _ q1
 have b0:=cell_of_row _ _ 0 _ _ _ q2
 have b2:=cell_of_row _ _ 2 _ _ _ q2
 clear hb1 hb2 q1 q2 hp1 hp2 h1 h2 hF hG hs hn hm hxy
 go_enter Tryz.func22,Tryz.ntmps22
 go_wp2_with fail
 refine HP.out.mono ?_
 rintro e w3 ⟨rfl,q,rfl⟩
 have HB3:=zhi (z2a HB.out q)
 clear HP HB a0 a2 b0 b2
 obtain ⟨w3,hw3⟩:∃ w3,((W.alloc (.cells #[.string nm,.int .i64 l1,.slice pA n pc,.slice bA m bc] 55)).alloc (.cells #[.string nm,.int .i64 l2,.slice pB n pc2,.slice bB m bc2] 55)).drewN q=w3:=⟨_,rfl⟩
 have r1:w3.heap[W.heap.size]?=some (.cells #[.string nm,.int .i64 l1,.slice pA n pc,.slice bA m bc] 55 (0,0)):=by rw [← hw3]; exact Q1.out
 have r2:w3.heap[W.heap.size+1]?=some (.cells #[.string nm,.int .i64 l2,.slice pB n pc2,.slice bB m bc2] 55 (0,0)):=by rw [← hw3]; exact Q2.out
 rw [hw3] at HB3 ⊢
 have a3:=cell_of_row _ _ 3 _ _ _ r1
 have b3:=cell_of_row _ _ 3 _ _ _ r2
 clear hw3 Q1 Q2 r1 r2
 go_wp2_with fail
 refine (HS.out _ HB3.out).mono ?_
 rintro e w4 ⟨rfl,hb4⟩
 have HB4:=zhi (z0d HB3.out hb4)
 clear HS HB3 hb4 a3 b3
 go_wp2_with fail
 go_ret
 exact ⟨rfl,HB4.out⟩
def ShFs (D d:Nat) (f:Fn):Prop:=f.params.length≤1000∧f.body.length≤1000∧∀ t∈f.body,ShQ D d t
set_option maxRecDepth 100000 in
set_option maxHeartbeats 2000000 in
theorem zcP {F G:Nat→Prop} {D d:Nat} {W:World} (fl fm:List Fn) (hxy:fl.map rlF=fm.map rlF) (A1 A2:Option Addr) (c1 c2 m:Nat) (h1:z1V F W D d fl A1 c1) (h2:z1V G W D d fm A2 c2) (hF:∀ q,F q→q<W.heap.size) (hG:∀ q,G q→q<W.heap.size) (hs:∀ f∈fl,ShFs D d f) (hm:fl.length=m) (hm1:m≤1000000) :
  Calls Tryz.prog 21 #[.slice A1 m c1,.slice A2 m c2,.func (.func 22) #[] #[]] W (RetV (.bool true) W):=by
 have hlen:fl.length=fm.length:=by simpa using congrArg List.length hxy
 have hc1:m≤c1:=by rw [← hm]; exact h1.1
 have hc2:m≤c2:=by rw [← hm,hlen]; exact h2.1
 have HXY:Hid (∀ (k:Nat) (x:Fn),fl[k]?=some x→∃ y,fm[k]?=some y∧rlF x=rlF y):=zhi (fun k x hx=>by
  have e:=congrArg (fun l:List Fn=>l[k]?) hxy
  simp only [List.getElem?_map,hx,Option.map_some] at e
  cases hy:fm[k]? with
  | none=>rw [hy] at e; cases e
  | some y =>
   rw [hy] at e
   injection e with e
   exact ⟨y,rfl,e⟩)
 have H1:=zhi h1
 have H2:=zhi h2
 have HF:=zhi hF
 have HG:=zhi hG
 have HS:=zhi hs
 have HM:=zhi hm
 clear h1 h2 hF hG hs hm hxy hlen
 go_enter Tryz.func21,Tryz.ntmps21
 go_wp2_with fail
 go_loopw [17] (fun i wr=>∃ k:Nat,k≤m∧i=.int .i64 (k:Int)∧Below W.heap.size W wr) (fun i _=>m - (intOf i).toNat)
 case atStart=>exact ⟨0,Nat.zero_le _,rfl,Below.refl _ _⟩
 case round =>
  obtain ⟨k,hk,rfl,hb⟩:=hrel
  have Hb:=zhi hb
  have hsz:=hb.size
  clear hb
  by_cases hlt:k<m
  ·obtain ⟨x,hx⟩:∃ x,fl[k]?=some x:=⟨fl[k]'(by rw [HM.out]; exact hlt),List.getElem?_eq_getElem _⟩
   obtain ⟨y,hy,hxy⟩:=HXY.out k x hx
   obtain ⟨hs1,hs2,hs3⟩:=HS.out x (List.mem_of_getElem? hx)
   obtain ⟨nm,l1,ps,xs⟩:=x
   obtain ⟨nm2,l2,ps2,ys⟩:=y
   simp only [rlF,Fn.mk.injEq,true_and] at hxy
   obtain ⟨rfl,rfl,hxy⟩:=hxy
   obtain ⟨g,pA,pc,bA,bc,rfl,hg,e0,e1,e2,e3,hp1,hr1⟩:=H1.out.2 k _ hx
   obtain ⟨g2,pB,pc2,bB,bc2,rfl,hg2,u0,u1,u2,u3,hp2,hr2⟩:=H2.out.2 k _ hy
   dsimp only at e0 e1 e2 e3 u0 u1 u2 u3 hp1 hr1 hp2 hr2 hs1 hs2 hs3
   rw [← z3G hxy] at u3
   obtain ⟨n1,hn1⟩:∃ n,ps.length=n:=⟨_,rfl⟩
   obtain ⟨n2,hn2⟩:∃ n,xs.length=n:=⟨_,rfl⟩
   rw [hn1] at e2 u2 hs1
   rw [hn2] at e3 u3 hs2
   have q1:=HF.out g hg
   have q2:=HG.out g2 hg2
   have d0:=hold Hb.out e0
   have d1:=hold Hb.out e1
   have d2:=hold Hb.out e2
   have d3:=hold Hb.out e3
   have v0:=hold Hb.out u0
   have v1:=hold Hb.out u1
   have v2:=hold Hb.out u2
   have v3:=hold Hb.out u3
   have hb1:=(Below.refl _ wr).alloc (Nat.le_refl _) (.cells #[.string nm,.int .i64 l1,.slice pA n1 pc,.slice bA n2 bc] 55)
   have hb2:=hb1.alloc (by simp) (.cells #[.string nm,.int .i64 l2,.slice pB n1 pc2,.slice bB n2 bc2] 55)
   have hbw:=z0d Hb.out hb2
   have HC:=zhi (z7c nm l1 l2 ps xs ys pA pB bA bB pc pc2 bc bc2 n1 n2 hn1 hn2 hxy (z3j hp1 (fun q hq=>hbw.block q (HF.out q hq))) (z3j hp2 (fun q hq=>hbw.block q (HG.out q hq))) (RowS.keep (fun _ h=>h) (fun q hq=>hbw.block q (HF.out q hq)) hr1) (RowS.keep (fun _ h=>h) (fun q hq=>hbw.block q (HG.out q hq)) hr2) (fun q hq=>Nat.lt_of_lt_of_le (HF.out q hq) hbw.size) (fun q hq=>Nat.lt_of_lt_of_le (HG.out q hq) hbw.size) hs3 hs1 hs2)
   have HBW:=zhi hbw
   have z0:=hold hb1 v0
   have z1:=hold hb1 v1
   have z2:=hold hb1 v2
   have z3:=hold hb1 v3
   clear e0 e1 e2 e3 u0 u1 u2 u3 hp1 hr1 hp2 hr2 hx hy hxy hg hg2 hb1 hb2 hbw hn1 hn2 hs1 hs2 hs3
   go_wp2_with fail
   refine HC.out.mono ?_
   rintro e w3 ⟨rfl,hb3⟩
   have hbe:=z0d HBW.out hb3
   clear HC HBW hb3 z0 z1 z2 z3 d0 d1 d2 d3 v0 v1 v2 v3
   go_wp2_with fail
   exact ⟨⟨k+1,by omega,by go_num,hbe⟩,by simp [intOf]; omega⟩
  ·go_wp2_with fail
   go_ret
   exact ⟨rfl,Hb.out⟩
theorem z28 {F:Nat→Prop} {w w':World} {l:List (ByteArray × Int)} {A:Option Addr} {c:Nat} (h:z0E F w l A c) (hk:∀ q,F q→w'.heap[q]?=w.heap[q]?):z0E F w' l A c :=
 ⟨h.1,fun i x hx=>by
  obtain ⟨g,hA,hg,h0,h1⟩:=h.2 i x hx
  exact ⟨g,hA,hg,(World.cell?_of_block (hk g hg)).trans h0,(World.cell?_of_block (hk g hg)).trans h1⟩⟩
theorem z27 {F:Nat→Prop} {w w':World} {D d:Nat} {l:List Fn} {A:Option Addr} {c:Nat} (h:z1V F w D d l A c) (hk:∀ q,F q→w'.heap[q]?=w.heap[q]?):z1V F w' D d l A c :=
 ⟨h.1,fun i x hx=>by
  obtain ⟨g,pA,pc,bA,bc,hA,hg,h0,h1,h2,h3,h4,h5⟩:=h.2 i x hx
  have e:∀ o,w'.cell? ⟨g,o,none⟩=w.cell? ⟨g,o,none⟩:=fun o=>World.cell?_of_block (hk g hg)
  exact ⟨g,pA,pc,bA,bc,hA,hg,(e _).trans h0,(e _).trans h1,(e _).trans h2,(e _).trans h3,z3j h4 hk,RowS.keep (fun _ h=>h) hk h5⟩⟩
set_option maxRecDepth 100000 in
set_option maxHeartbeats 2000000 in
theorem zbG {F G:Nat→Prop} {D d:Nat} {W:World} (gl:List (ByteArray × Int)) (fl fm:List Fn) (hxy:fl.map rlF=fm.map rlF) (gA fA gB fB:Option Addr) (gc fc gc2 fc2 n m:Nat) (hg1:z0E F W gl gA gc) (hg2:z0E G W gl gB gc2) (hf1:z1V F W D d fl fA fc) (hf2:z1V G W D d fm fB fc2) (hF:∀ q,F q→q<W.heap.size) (hG:∀ q,G q→q<W.heap.size) (hs:∀ f∈fl,ShFs D d f) (hn:gl.length=n) (hm:fl.length=m) (hn1:n≤1000000) (hm1:m≤1000000) :
  Calls Tryz.prog 9 #[.agg #[.slice gA n gc,.slice fA m fc],.agg #[.slice gB n gc2,.slice fB m fc2]] W (RetV (.bool true) W):=by
 have hb1:=(Below.refl _ W).alloc (Nat.le_refl _) (.cells #[.slice gA n gc,.slice fA m fc] 29)
 have hb2:=hb1.alloc (by simp) (.cells #[.slice gB n gc2,.slice fB m fc2] 29)
 have q1:=z0G W (.cells #[.slice gA n gc,.slice fA m fc] 29) (.cells #[.slice gB n gc2,.slice fB m fc2] 29)
 have q2:=z0F W (.cells #[.slice gA n gc,.slice fA m fc] 29) (.cells #[.slice gB n gc2,.slice fB m fc2] 29)
 have HP:=zhi (zcR gl gA gB gc gc2 n hn (z28 hg1 (fun q hq=>hb2.block q (hF q hq))) (z28 hg2 (fun q hq=>hb2.block q (hG q hq))) hn1)
 have HS:=zhi (fun V (hV:Below W.heap.size W V)=>zcP fl fm hxy fA fB fc fc2 m (z27 hf1 (fun q hq=>hV.block q (hF q hq))) (z27 hf2 (fun q hq=>hV.block q (hG q hq))) (fun q hq=>Nat.lt_of_lt_of_le (hF q hq) hV.size) (fun q hq=>Nat.lt_of_lt_of_le (hG q hq) hV.size) hs hm hm1)
 have HB:=zhi hb2
 have Q1:=zhi q1
 have Q2:=zhi q2
 have a0:=cell_of_row _ _ 0 _ _ _ q1
 have b0:=cell_of_row _ _ 0 _ _ _ q2
 clear hb1 hb2 q1 q2 hg1 hg2 hf1 hf2 hF hG hs hn hm hxy
 go_enter Tryz.func9,Tryz.ntmps9
 go_wp2_with fail
 refine HP.out.mono ?_
 rintro e w3 ⟨rfl,q,rfl⟩
 have HB3:=zhi (z2a HB.out q)
 clear HP HB a0 b0
 obtain ⟨w3,hw3⟩:∃ w3,((W.alloc (.cells #[.slice gA n gc,.slice fA m fc] 29)).alloc (.cells #[.slice gB n gc2,.slice fB m fc2] 29)).drewN q=w3:=⟨_,rfl⟩
 have r1:w3.heap[W.heap.size]?=some (.cells #[.slice gA n gc,.slice fA m fc] 29 (0,0)):=by rw [← hw3]; exact Q1.out
 have r2:w3.heap[W.heap.size+1]?=some (.cells #[.slice gB n gc2,.slice fB m fc2] 29 (0,0)):=by rw [← hw3]; exact Q2.out
 rw [hw3] at HB3 ⊢
 have a1:=cell_of_row _ _ 1 _ _ _ r1
 have b1:=cell_of_row _ _ 1 _ _ _ r2
 clear hw3 Q1 Q2 r1 r2
 go_wp2_with fail
 refine (HS.out _ HB3.out).mono ?_
 rintro e w4 ⟨rfl,hb4⟩
 have HB4:=zhi (z0d HB3.out hb4)
 clear HS HB3 hb4 a1 b1
 go_wp2_with fail
 go_ret
 exact ⟨rfl,HB4.out⟩
end Go.Proofs.YtdplfnemedckaaaGreatDoor
namespace Go.Proofs.YtdplfnemedckaaaGreatDoor
open Go.RowKit
theorem zhD {x:Ex} (h:GE 2 x):fmtE 3 x≠[]:=by
 obtain ⟨c,r,e,_⟩:=(zaJ (z5Y 2 x h) 3 (zd2 2 x h)).2
 rw [z3K] at e
 rw [e]
 simp
theorem zeO:∀ (d:Nat) (x:St),GSt d x→1≤cntS d x
 | 0,_,h=>h.elim
 | d+1,.mk k _ _ es _ _,_=>by
  have:=(z5h k es).1
  simp only [cntS]
  omega
theorem z5Q {d:Nat}:∀ {l:List St},(∀ t∈l,GSt d t)→l.length≤(l.map (cntS d)).sum∧∀ t∈l,cntS d t≤(l.map (cntS d)).sum
 | [],_=>by simp
 | a :: r,h=>by
  have h1:=z5Q (l:=r) (fun t hm=>h t (by simp [hm]))
  have h2:=zeO d a (h a (by simp))
  refine ⟨by simp; omega,fun t hm=>?_⟩
  rcases List.mem_cons.1 hm with rfl | hm
  ·simp
  ·have:=h1.2 t hm
   simp
   omega
theorem zf8 (k j:Nat):∀ (d:Nat) (x y:St),GSt d x→cntS d x≤1000→rlS x=rlS y→ShQ (3+k) (d+j) y:=by
 intro d
 induction d with
 | zero=>intro x y h; exact h.elim
 | succ d ih =>
  rintro ⟨kk,l,s,es,ts,us⟩ ⟨kk2,l2,s2,es2,ts2,us2⟩ ⟨_,he,ht,hu,hk⟩ hc hxy
  simp only [rlS,St.mk.injEq] at hxy
  obtain ⟨rfl,_,rfl,hes,hts,hus⟩:=hxy
  simp only [cntS] at hc
  obtain ⟨t1,t2⟩:=z5Q ht
  obtain ⟨u1,u2⟩:=z5Q hu
  have e:d+1+j=(d+j)+1:=by omega
  rw [e]
  have hel:=z6p hes
  have htl:=z3G hts
  have hul:=z3G hus
  have hs:s.size≤1000:=by
   rcases hk with ⟨_,h,_⟩ | ⟨_,h,_⟩ | ⟨_,h,_⟩ | ⟨_,h,_⟩ | ⟨_,h,_⟩ | ⟨_,h,_⟩
   ·have:=h.1; omega
   ·have:=h.1; omega
   ·have:=h.1; omega
   ·omega
   ·omega
   ·omega
  refine ⟨hs,fun y hy=>?_,fun y hy=>?_,fun y hy=>?_,?_,?_,by omega,by omega,?_⟩
  ·obtain ⟨i,hi,e2⟩:=List.mem_iff_getElem.1 hy
   obtain ⟨x,hx⟩:∃ x,es[i]?=some x:=⟨es[i]'(by omega),List.getElem?_eq_getElem _⟩
   obtain ⟨y2,hy2,hxy⟩:=zbJ hes hx
   rw [List.getElem?_eq_getElem hi,e2] at hy2
   injection hy2 with hy2
   subst hy2
   have hg:=he x (List.mem_of_getElem? hx)
   refine ⟨zeu _ _ _ hxy (z8S (zgw 2 x hg) k),?_⟩
   have hd:=zd2 2 x hg
   rw [zf5 2 x hg] at hd
   rw [← z4o,← hxy,z4o,z5W hd k]
   exact zhD hg
  ·obtain ⟨i,hi,e2⟩:=List.mem_iff_getElem.1 hy
   obtain ⟨x,hx⟩:∃ x,ts[i]?=some x:=⟨ts[i]'(by omega),List.getElem?_eq_getElem _⟩
   obtain ⟨y2,hy2,hxy⟩:=z6q hts hx
   rw [List.getElem?_eq_getElem hi,e2] at hy2
   injection hy2 with hy2
   subst hy2
   exact ih x y (ht x (List.mem_of_getElem? hx)) (by have:=t2 x (List.mem_of_getElem? hx); omega) hxy
  ·obtain ⟨i,hi,e2⟩:=List.mem_iff_getElem.1 hy
   obtain ⟨x,hx⟩:∃ x,us[i]?=some x:=⟨us[i]'(by omega),List.getElem?_eq_getElem _⟩
   obtain ⟨y2,hy2,hxy⟩:=z6q hus hx
   rw [List.getElem?_eq_getElem hi,e2] at hy2
   injection hy2 with hy2
   subst hy2
   exact ih x y (hu x (List.mem_of_getElem? hx)) (by have:=u2 x (List.mem_of_getElem? hx); omega) hxy
  ·rcases hk with ⟨_,_,h,_⟩ | ⟨_,_,h,_⟩ | ⟨_,_,h,_⟩ | ⟨_,_,h⟩ | ⟨_,_,h,_⟩ | ⟨_,_,h,_⟩ <;> omega
  ·rcases hk with ⟨_,_,h,_⟩ | ⟨_,_,h,_⟩ | ⟨_,_,h,_⟩ | ⟨_,_,h⟩ | ⟨_,_,h,_⟩ | ⟨_,_,h,_⟩ <;> omega
  ·rcases hk with ⟨h,_⟩ | ⟨h,_⟩ | ⟨h,_,h3,_⟩ | ⟨h,_⟩ | ⟨h,_⟩ | ⟨h | h | h,_⟩
   ·simp [h]
   ·simp [h]
   ·exact .inr (.inr (.inl ⟨h,by omega⟩))
   ·simp [h]
   ·simp [h]
   ·simp [h]
   ·simp [h]
   ·simp [h]
theorem zgy (k j:Nat) {f g:Fn} (h:GF 2 f) (hr:rlF f=rlF g):ShFq (3+k) (3+j) g∧ShFs (3+k) (3+j) g:=by
 obtain ⟨nm,l1,ps,xs⟩:=f
 obtain ⟨nm2,l2,ps2,ys⟩:=g
 simp only [rlF,Fn.mk.injEq,true_and] at hr
 obtain ⟨rfl,rfl,hxy⟩:=hr
 obtain ⟨h1,h2,h3,h4,h5⟩:=h
 dsimp only at h1 h2 h3 h4 h5
 have hl:=z3G hxy
 have h4:∀ t∈xs,GSt 3 t:=h4
 have h5:(xs.map (cntS 3)).sum≤77:=h5
 obtain ⟨c1,c2⟩:=z5Q h4
 have hb:∀ t∈ys,ShQ (3+k) (3+j) t:=fun y hy=>by
  obtain ⟨i,hi,e2⟩:=List.mem_iff_getElem.1 hy
  obtain ⟨x,hx⟩:∃ x,xs[i]?=some x:=⟨xs[i]'(by omega),List.getElem?_eq_getElem _⟩
  obtain ⟨y2,hy2,hxy⟩:=z6q hxy hx
  rw [List.getElem?_eq_getElem hi,e2] at hy2
  injection hy2 with hy2
  subst hy2
  have hm:=List.mem_of_getElem? hx
  exact zf8 k j 3 x y (h4 x hm) (by have:=c2 x hm; omega) hxy
 exact ⟨⟨by have:=h1.1; show nm.size≤1000; omega,by dsimp only; omega,by dsimp only; omega,hb⟩,by dsimp only; omega,by dsimp only; omega,hb⟩
theorem zaP (k j:Nat) {fl fm:List Fn} (h:∀ f∈fl,GF 2 f) (hr:fl.map rlF=fm.map rlF):∀ g∈fm,ShFq (3+k) (3+j) g∧ShFs (3+k) (3+j) g:=by
 intro g hg
 have hl:fl.length=fm.length:=by simpa using congrArg List.length hr
 obtain ⟨i,hi,e2⟩:=List.mem_iff_getElem.1 hg
 have e:=congrArg (fun l:List Fn=>l[i]?) hr
 simp only [List.getElem?_map,List.getElem?_eq_getElem hi,List.getElem?_eq_getElem (show i<fl.length by omega),Option.map_some,Option.some.injEq,e2] at e
 exact zgy k j (h _ (List.getElem_mem _)) e
theorem zfX {F:Nat→Prop} {w:World} {l:List ByteArray} {A:Option Addr} {c:Nat} (h:RowG 1 MStr F w l A c):z0y F w l A c :=
 ⟨h.1,fun i x hx=>by
  obtain ⟨g,cs,h1,h2,_,h4,h5⟩:=h.2 i x hx
  have h5':cs=[.string x]:=h5
  subst h5'
  have:=h4 0 _ rfl
  rw [Nat.mul_one,Nat.add_zero] at this
  exact ⟨g,h1,h2,this⟩⟩
theorem zd3 {F:Nat→Prop} {w:World} {l:List (ByteArray × Int)} {A:Option Addr} {c:Nat} (h:RowG 2 MGl F w l A c):z0E F w l A c :=
 ⟨h.1,fun i x hx=>by
  obtain ⟨g,cs,h1,h2,_,h4,h5⟩:=h.2 i x hx
  have h5':cs=[.string x.1,.int .i64 x.2]:=h5
  subst h5'
  exact ⟨g,h1,h2,h4 0 _ rfl,h4 1 _ rfl⟩⟩
theorem zcZ {F:Nat→Prop} {w:World} {D d:Nat} {l:List Fn} {A:Option Addr} {c:Nat} (h:RowG 4 (MFn D d) F w l A c):z1V F w D d l A c :=
 ⟨h.1,fun i x hx=>by
  obtain ⟨g,cs,h1,h2,_,h4,pA,m,pc,bA,bm,bc,rfl,hm,hbm,hp,hb⟩:=h.2 i x hx
  subst hm hbm
  exact ⟨g,pA,pc,bA,bc,h1,h2,h4 0 _ rfl,h4 1 _ rfl,h4 2 _ rfl,h4 3 _ rfl,zfX hp,hb⟩⟩
theorem z5u {F:Nat→Prop} {w:World} {D d:Nat} {l:List Fn} {A:Option Addr} {c:Nat} (h:z1V F w D d l A c) (m n:Nat):z1V F w (D+m) (d+(n+1)) l A c :=
 ⟨h.1,fun i x hx=>by
  obtain ⟨g,pA,pc,bA,bc,hA,hg,h0,h1,h2,h3,h4,h5⟩:=h.2 i x hx
  exact ⟨g,pA,pc,bA,bc,hA,hg,h0,h1,h2,h3,h4,h5.more m n⟩⟩
theorem zcI {s t:ByteArray} (h:s.data.toList=t.data.toList):s=t:=by
 cases s with
 | mk a =>
  cases t with
  | mk b =>
   have:a=b:=Array.toList_inj.1 h
   rw [this]
end Go.Proofs.YtdplfnemedckaaaGreatDoor
