/-
  Kh: PsWalk, PsNext, PsAcc, PsBin, PsLev, PsUn, PsPrim, PsCall0, PsCall1. Walks and laws that the statement's proof is made of. No condition of its own.
-/
import Derived.Test.YtdplfnemedckaaaGreatDoorKd
import Derived.RegionTactic
import Derived.ChangeAlike
import Derived.BigRegion
import Derived.Deep.RegionLaw
namespace Go.Proofs.YtdplfnemedckaaaGreatDoor
open Go.RowKit
def TRow (w:World) (g:Nat) (l:List z03):Prop:=∀ i x,l[i]?=some x→w.cell? ⟨g,i,none⟩=some (.string (nmB x))
theorem zgQ {a b:z03} (h:a≠b):((nmB a).toList == (nmB b).toList)=false:=by
 rw [beq_eq_false_iff_ne]
 intro e
 rw [Lib.toList_data,Lib.toList_data] at e
 exact h e
def zhz (b:Bool) (w:World) (e:Ending) (w':World):Prop:=∃ i:Int,e=.returned (.int .i64 i)∧w=w'∧decide (0≤i)=b
set_option maxRecDepth 10000 in
theorem zaW (b:Bool) (s:z03) (l:List z03) (g n c:Nat) (w:World) (hb:l.contains s=b) (hn:l.length=n) (_hc:n≤c) (hn2:n≤1000) (hr:TRow w g l) :
  Calls Tryz.prog 98 #[.slice (some ⟨g,0,none⟩) n c,.string (nmB s)] w (zhz b w):=by
 have HB:=zhi hb
 clear hb
 have Hr:=zhi hr
 have Hn:=zhi hn
 clear hr hn
 go_enter Tryz.func98,Tryz.ntmps98
 go_wp2_with fail
 go_loop [8] (fun i=>∃ k:Nat,k≤n∧i=.int .i64 (k:Int)∧Hid (∀ j,j<k→l[j]?≠some s)) (fun i=>n - (intOf i).toNat)
 case atStart=>exact ⟨0,Nat.zero_le _,rfl,zhi (fun j hj=>by omega)⟩
 case round =>
  obtain ⟨k,hk,rfl,H⟩:=hrel
  by_cases hlt:k<n
  ·obtain ⟨x,hx⟩:∃ x,l[k]?=some x:=⟨l[k]'(by rw [Hn.out]; exact hlt),List.getElem?_eq_getElem _⟩
   have d0:=Hr.out k x hx
   have Hx:=zhi hx
   clear hx
   by_cases he:s=x
   ·subst he
    have HP:Hid (l.contains s=true):=zhi (by rw [List.contains_iff_mem]; exact List.mem_of_getElem? Hx.out)
    clear H Hx
    go_wp2_with fail
    go_ret
    exact ⟨_,rfl,rfl,by rw [← HB.out,HP.out]; simp⟩
   ·have H2:Hid (∀ j,j<k+1→l[j]?≠some s):=zhi (fun j hj=>by
     rcases Nat.lt_or_ge j k with h | h
     ·exact H.out j h
     ·obtain rfl:j=k:=by omega
      rw [Hx.out]
      intro e
      injection e with e
      exact he e.symm)
    have he2:=zgQ he
    clear H Hx
    go_wp2_with fail
    exact ⟨⟨k+1,by omega,by go_num,H2⟩,by simp [intOf]; omega⟩
  ·have HP:Hid (l.contains s=false):=zhi (by
    rw [← Bool.not_eq_true,List.contains_iff_mem]
    intro hm
    obtain ⟨j,hj,e⟩:=List.mem_iff_getElem.1 hm
    exact H.out j (by have:=Hn.out; omega) (by rw [List.getElem?_eq_getElem hj,e]))
   clear H
   go_wp2_with fail
   go_ret
   exact ⟨_,rfl,rfl,by rw [← HB.out,HP.out]; rfl⟩
theorem z6Q (b:Bool) (s:z03) (l:List z03) (g n c:Nat) (w:World) (hb:l.contains s=b) (hn:l.length=n) (hc:n≤c) (hn2:n≤1000) (hr:TRow w g l) :
  Calls Tryz.prog 67 #[.slice (some ⟨g,0,none⟩) n c,.string (nmB s)] w (RetB b w):=by
 have hx:=zhi (zaW b s l g n c w hb hn hc hn2 hr)
 clear hb hn hc hn2 hr
 go_enter Tryz.func67,Tryz.ntmps67
 go_wp2_with fail
 refine hx.out.mono ?_
 rintro e w1 ⟨i,rfl,rfl,hi⟩
 have Hi:=zhi hi
 clear hi hx
 go_wp2_with fail
 go_ret
 exact ⟨by rw [← Hi.out]; simp,rfl⟩
theorem z0W {p tb:Nat} {s:PS} (b:Bool) (l:List z03) (g n c:Nat) (w:World) (h:PA w p tb s) (hb:z0c l s=b) (hn:l.length=n) (hc:n≤c) (hn2:n≤1000) (hr:TRow w g l) :
  Calls Tryz.prog 35 #[.pointer (some ⟨p,0,none⟩),.slice (some ⟨g,0,none⟩) n c] w (RetB b w):=by
 have hx:=zhi (z6Q b (hdT s).text l g n c w hb hn hc hn2 hr)
 obtain ⟨off,c2,m,h⟩:=h
 have h0:=h.cells.1
 have h3:=h.hd.2.2.2
 have hm:=h.cap
 clear hb hn hc hn2 hr h
 go_enter Tryz.func35,Tryz.ntmps35
 go_wp2_with fail
 refine hx.out.mono ?_
 rintro e w1 ⟨rfl,rfl⟩
 clear hx
 go_wp2_with fail
 go_ret
 exact ⟨rfl,rfl⟩
end Go.Proofs.YtdplfnemedckaaaGreatDoor
namespace Go.Proofs.YtdplfnemedckaaaGreatDoor
open Go.RowKit
def tokV (t:Tok):Value:=.agg #[.int .i64 (t.kind:Int),.int .i64 (t.line:Int),.int .i64 (t.value:Int),.string (nmB t.text)]
def z7p (p tb:Nat) (t:Tok) (s':PS) (w:World) (e:Ending) (w':World):Prop:=e=.returned (tokV t)∧PA w' p tb s'∧w.grownBy w' (some p)
theorem PR.keep {w w':World} {p tb off c n:Nat} {s:PS} (h:PR w p tb off c n s) (hp:w'.heap[p]?=w.heap[p]?) (ht:w'.heap[tb]?=w.heap[tb]?):PR w' p tb off c n s:=by
 obtain ⟨T,hr⟩:=h.row
 exact ⟨h.wf,h.ne,h.len,h.cap,h.sm,⟨T,hp.trans hr⟩,fun k t hk=>(h.tok k t hk).keep ht⟩
theorem PR.low {w w':World} {p tb off c n B:Nat} {s:PS} (h:PR w p tb off c n s) (hb:Below B w w') (h1:p<B) (h2:tb<B):PR w' p tb off c n s:=h.keep (hb.block _ h1) (hb.block _ h2)
theorem z0F (w:World) (a o:Obj):((w.alloc a).alloc o).heap[w.heap.size+1]?=some o:=by
 have:=heap_alloc_new (w.alloc a) o
 simpa using this
theorem z0G (w:World) (a o:Obj):((w.alloc a).alloc o).heap[w.heap.size]?=some a:=by
 have h1:=heap_alloc_new w a
 have h2:=((Below.refl _ (w.alloc a)).alloc (Nat.le_refl _) o).block w.heap.size (by simp)
 exact h2.trans h1
theorem z52 {P:Program} {w:World} {ops:Array Oper} {rest:List Oper} {d:Option Tmp} {ty:TypeId} {x y:Operand} {pos:String} {af:Array Edge} {gd:Option (Nat × Bool)} {a:Act} {Q:Exit→Act→World→Prop}
  (h:z0a (wpList P ops Q ({ dst:=d,op:=.store 99 x y,type:=ty,pos:=pos,after:=af,guard:=gd } :: rest) a w)):wpList P ops Q ({ dst:=d,op:=.store 99 x y,type:=ty,pos:=pos,after:=af,guard:=gd } :: rest) a w:=h
theorem PR.slice {w:World} {p tb off c n off' c' n':Nat} {s:PS} (h:PR w p tb off c n s):∃ T,(w.setCell ⟨p,0,none⟩ (.slice (some ⟨tb,off',none⟩) n' c')).heap[p]?=some (.cells #[.slice (some ⟨tb,off',none⟩) n' c',.int .i64 (s.ref:Int),.int .i64 (s.out:Int)] T (0,0)):=by
 obtain ⟨T,hr⟩:=h.row
 exact ⟨T,z0f _ hr⟩
set_option maxRecDepth 100000 in
set_option maxHeartbeats 1000000 in
theorem z1P {p tb:Nat} {s:PS} (w:World) (h:PA w p tb s) (h2:2≤s.rest.length) :
  Calls Tryz.prog 100 #[.pointer (some ⟨p,0,none⟩)] w (z7p p tb (hdT s) (popP s) w):=by
 obtain ⟨off,c,m,h⟩:=h
 obtain ⟨n,rfl⟩:∃ n,m=n+1:=⟨m - 1,by have:=h.len; omega⟩
 have hcap:=h.cap
 have hp:=h.plt
 have ht:=h.tlt
 have hb1:=(Below.refl _ w).alloc (Nat.le_refl _) (.cells #[.int .i64 0,.int .i64 0,.int .i64 0,.string { data:=#[] }] 99)
 have hb2:=hb1.alloc (by simp) (.cells #[.int .i64 0,.int .i64 0,.int .i64 0,.string { data:=#[] }] 99)
 have hR:=z0F w (.cells #[.int .i64 0,.int .i64 0,.int .i64 0,.string { data:=#[] }] 99) (.cells #[.int .i64 0,.int .i64 0,.int .i64 0,.string { data:=#[] }] 99)
 have hS:=z0G w (.cells #[.int .i64 0,.int .i64 0,.int .i64 0,.string { data:=#[] }] 99) (.cells #[.int .i64 0,.int .i64 0,.int .i64 0,.string { data:=#[] }] 99)
 have P1:=h.low hb1 hp ht
 have P2:=h.low hb2 hp ht
 have a0:=P1.cells.1
 obtain ⟨k0,k1,k2,k3⟩:=P1.hd
 have HR:=zhi hR
 have HS:=zhi hS
 have HB2:=zhi hb2
 have HP:=zhi h
 have HP2:=zhi P2
 clear P1 P2 hR hS hb1 hb2 h h2
 go_enter Tryz.func100,Tryz.ntmps100
 go_wp2_with (with_reducible refine z02 ?_)
 refine z0a.of (z00 _ rfl _ _ _ rfl _ _ rfl (by rfl) _ _ HR.out (by kernel_rfl) (by rfl) (by simp [Value.oneCell']) ?_)
 intro w3 hrow hg
 have hb3:=HB2.out.trans (z0b hg (fun k hk=>by injection hk with hk; omega) (by simp <;> omega):Below w.heap.size _ w3)
 have P3:=HP.out.low hb3 hp ht
 have c0:=P3.cells.1
 have fz:=P3.cells.2.2.2 0
 have hg4:=z06 w3 ⟨p,0,none⟩ (.slice (some ⟨tb,off+4,none⟩) (n+1) (c - 1))
 have P4:=P3.pop (P3.slice (off':=off+4) (n':=n+1) (c':=c - 1)) (hg4.block tb P3.tlt (fun e=>by injection e with e; exact P3.ne e))
 have hrow4:=z04 hg4 (by simp; omega) hrow
 obtain ⟨r0,r1,r2,r3⟩:=cl4 hrow4
 have hZ:=z04 hg4 (by simp; omega) ((hg.block w.heap.size (by simp <;> omega) (fun e=>by injection e with e; omega)).trans HS.out)
 have HZ:=zhi hZ
 have HP4:=zhi P4
 have HG4:=zhi ((z01 hb3 (some p)).trans hg4)
 have hsz3:=hb3.size
 clear hg hZ P3 P4 hg4 hb3 HP2 hrow hrow4
 go_wp2_with (with_reducible refine z52 ?_)
 refine z0a.of (z00 _ rfl _ _ _ rfl _ _ rfl (by rfl) _ _ HZ.out (by kernel_rfl) (by rfl) (by simp [Value.oneCell']) ?_)
 intro w5 hrow5 hg5
 obtain ⟨j0,j1,j2,j3⟩:=cl4 hrow5
 have HH:Hid (z7p p tb (hdT s) (popP s) w (.returned (tokV (hdT s))) w5):=zhi ⟨rfl,PA.other ⟨_,_,_,HP4.out⟩ hg5 (by omega) (by omega),z0g HG4.out hg5 (Nat.le_refl _)⟩
 clear hrow5 hg5
 go_wp2_with fail
 exact bodyPost_ret (by simp [results,Tryz.results100,go_sem,tokV,j0,j1,j2,j3]) rfl HH.out
end Go.Proofs.YtdplfnemedckaaaGreatDoor
namespace Go.Proofs.YtdplfnemedckaaaGreatDoor
open Go.RowKit
def zgf (p tb:Nat) (s':PS) (w:World) (e:Ending) (w':World):Prop:=(∃ v,e=.returned v)∧PA w' p tb s'∧w.grownBy w' (some p)
theorem PR.setref {w:World} {p tb off c n:Nat} {s:PS} (r:Nat) (h:PR w p tb off c n s):PR (w.setCell ⟨p,1,none⟩ (.int .i64 (r:Int))) p tb off c n { s with ref:=r }:=by
 obtain ⟨T,hr⟩:=h.row
 exact ⟨h.wf,h.ne,h.len,h.cap,h.sm,⟨T,z0f _ hr⟩,fun k t hk=>(h.tok k t hk).keep ((z06 w ⟨p,1,none⟩ _).block tb h.tlt (fun e=>by injection e with e; exact h.ne e))⟩
theorem z5F {w:World} {p tb off c n:Nat} {s:PS} (h:PR w p tb off c n { s with ref:=(z0k s).ref }):PA (w.setCell ⟨p,0,none⟩ (.slice (some ⟨tb,off+n * 4,none⟩) 1 (c - n))) p tb (z0k s):=by
 have hl:s.rest.length=n+1:=h.len
 have e:z0k { s with ref:=(z0k s).ref }=z0k s:=by
  by_cases h0:s.ref=0 <;> simp [z0k,hdT,h0]
 have h2:=h.refuse (r:=(z0k s).ref) (w':=w.setCell ⟨p,0,none⟩ (.slice (some ⟨tb,off+n * 4,none⟩) 1 (c - n))) (by rw [e]) (h.slice (off':=off+n * 4) (n':=1) (c':=c - n)) ((z06 w ⟨p,0,none⟩ _).block tb h.tlt (fun e=>by injection e with e; exact h.ne e))
 rw [e] at h2
 exact ⟨_,_,_,h2⟩
theorem PA.drew {w:World} {p tb:Nat} {s:PS} (h:PA w p tb s):PA w.drew p tb s:=h.keep rfl rfl
theorem z4e {w w':World} {row:Option Nat} (h:w.grownBy w' row):w.grownBy w'.drew row:=⟨h.os,h.tape,h.output,h.size,h.block⟩
set_option maxRecDepth 100000 in
set_option maxHeartbeats 1000000 in
theorem z5E {p tb:Nat} {s:PS} (w:World) (h:PA w p tb s):Calls Tryz.prog 34 #[.pointer (some ⟨p,0,none⟩)] w (zgf p tb (z0k s) w):=by
 obtain ⟨off,c,n,h⟩:=h
 have hcap:=h.cap
 have hsm:=h.sm
 have hp:=h.plt
 have ht:=h.tlt
 have hl:=h.hd.2.1
 obtain ⟨c0,c1,c2,fz⟩:=h.cells
 have f0:=fz 0
 have f1:=fz 1
 have HP:=zhi h
 clear fz h
 by_cases h0:s.ref=0
 ·have hr:(z0k s).ref=(hdT s).line:=by simp [z0k,h0]
  rw [h0] at c1
  have P1:=HP.out.setref (hdT s).line
  obtain ⟨d0,d1,d2,fd⟩:=P1.cells
  have g0:=fd 0
  have HE:Hid (PA _ p tb (z0k s)):=zhi (z5F (s:=s) (by rw [hr]; exact P1))
  have HG:=zhi ((z06 w ⟨p,1,none⟩ (.int .i64 ((hdT s).line:Int))).trans (z06 _ ⟨p,0,none⟩ (.slice (some ⟨tb,off+n * 4,none⟩) 1 (c - n))))
  clear P1 fd hr h0
  go_enter Tryz.func34,Tryz.ntmps34
  go_wp2_with fail
  go_region
  all_goals refine bodyPost_ret (results_none rfl _ _ _) rfl ?_
  all_goals exact ⟨⟨_,rfl⟩,HE.out.drew,z4e HG.out⟩
 ·have hr:(z0k s).ref=s.ref:=by simp [z0k,h0]
  have hne:((s.ref:Int) == 0)=false:=by simp; omega
  have HE:Hid (PA _ p tb (z0k s)):=zhi (z5F (s:=s) (by rw [hr]; exact HP.out))
  have HG:=zhi (z06 w ⟨p,0,none⟩ (.slice (some ⟨tb,off+n * 4,none⟩) 1 (c - n)))
  clear hr h0
  go_enter Tryz.func34,Tryz.ntmps34
  go_wp2_with fail
  go_region
  all_goals refine bodyPost_ret (results_none rfl _ _ _) rfl ?_
  all_goals exact ⟨⟨_,rfl⟩,HE.out.drew,z4e HG.out⟩
def AccG (p tb:Nat) (b:Bool) (s':PS) (w:World) (e:Ending) (w':World):Prop:=e=.returned (.bool b)∧PA w' p tb s'∧w.grownBy w' (some p)
theorem z4L (w:World) (x:z03) (t:TypeId):TRow (w.alloc (.cells #[.string (nmB x)] t)) w.heap.size [x]:=fun i y hi=>by
 match i,hi with
 | 0,hi =>
  injection hi with hi
  subst hi
  exact cell_of_row _ _ 0 _ _ _ (heap_alloc_new w _)
 | i+1,hi=>simp at hi
set_option maxRecDepth 100000 in
set_option maxHeartbeats 1000000 in
theorem z0n {p tb:Nat} {s:PS} (x:z03) (t:ByteArray) (w:World) (ht:t=nmB x) (hx:x≠[]) (h:PA w p tb s) (hs:z0c [x] s=true):Calls Tryz.prog 70 #[.pointer (some ⟨p,0,none⟩),.string t] w (AccG p tb true (popP s) w):=by
 have h2:=z0t h.wf (l:=[x]) (by simpa using hx) hs
 have hb:=(Below.refl _ w).alloc (Nat.le_refl _) (.cells #[.string t] 9)
 have HS:=zhi (z0W true [x] w.heap.size 1 1 _ (h.below hb) hs rfl (Nat.le_refl _) (by omega) (by rw [ht]; exact z4L w x 9))
 have HN:=zhi (z1P _ (h.below hb) h2)
 have HB:=zhi hb
 clear h hs hb h2 ht hx
 go_enter Tryz.func70,Tryz.ntmps70
 go_wp2_with fail
 refine HS.out.mono ?_
 rintro e w1 ⟨rfl,rfl⟩
 go_wp2_with fail
 refine HN.out.mono ?_
 rintro e w1 ⟨rfl,hp,hg⟩
 have HP:=zhi hp
 have HG:=zhi ((z01 HB.out (some p)).trans hg)
 clear hp hg
 go_wp2_with fail
 go_ret
 exact ⟨rfl,HP.out,HG.out⟩
set_option maxRecDepth 100000 in
set_option maxHeartbeats 1000000 in
theorem z0m {p tb:Nat} {s:PS} (x:z03) (t:ByteArray) (w:World) (ht:t=nmB x) (h:PA w p tb s) (hs:z0c [x] s=false):Calls Tryz.prog 70 #[.pointer (some ⟨p,0,none⟩),.string t] w (AccG p tb false s w):=by
 have hb:=(Below.refl _ w).alloc (Nat.le_refl _) (.cells #[.string t] 9)
 have HS:=zhi (z0W false [x] w.heap.size 1 1 _ (h.below hb) hs rfl (Nat.le_refl _) (by omega) (by rw [ht]; exact z4L w x 9))
 have HP:=zhi (h.below hb)
 have HB:=zhi hb
 clear h hs hb ht
 go_enter Tryz.func70,Tryz.ntmps70
 go_wp2_with fail
 refine HS.out.mono ?_
 rintro e w1 ⟨rfl,rfl⟩
 go_wp2_with fail
 go_ret
 exact ⟨rfl,HP.out,z01 HB.out _⟩
theorem z0r {p tb:Nat} {s:PS} (x:z03) (t:ByteArray) (w:World) (ht:t=nmB x) (hx:x≠[]) (h:PA w p tb s):Calls Tryz.prog 68 #[.pointer (some ⟨p,0,none⟩),.string t] w (zgf p tb (z09 x s) w):=by
 cases hs:z0c [x] s with
 | true =>
  have HA:=zhi (z0n x t w ht hx h hs)
  have e:z09 x s=popP s:=by simp [z09,hs]
  rw [e]
  clear h hs e ht hx
  go_enter Tryz.func68,Tryz.ntmps68
  go_wp2_with fail
  refine HA.out.mono ?_
  rintro e w1 ⟨rfl,hp,hg⟩
  have HP:=zhi hp
  have HG:=zhi hg
  clear hp hg
  go_wp2_with fail
  refine bodyPost_ret (results_none rfl _ _ _) rfl ?_
  exact ⟨⟨_,rfl⟩,HP.out,HG.out⟩
 | false =>
  have HA:=zhi (z0m x t w ht h hs)
  have e:z09 x s=z0k s:=by simp [z09,hs]
  rw [e]
  clear h hs e ht hx
  go_enter Tryz.func68,Tryz.ntmps68
  go_wp2_with fail
  refine HA.out.mono ?_
  rintro e w1 ⟨rfl,hp,hg⟩
  have HR:=zhi (z5E _ hp)
  have HG:=zhi hg
  clear hp hg
  go_wp2_with fail
  refine HR.out.mono ?_
  rintro e w2 ⟨⟨v,rfl⟩,hp,hg⟩
  have HP:=zhi hp
  have HG2:=zhi (HG.out.trans hg)
  clear hp hg
  go_wp2_with fail
  refine bodyPost_ret (results_none rfl _ _ _) rfl ?_
  exact ⟨⟨_,rfl⟩,HP.out,HG2.out⟩
theorem zfg (k j:Nat):((k:Int) == (j:Int))=decide (k=j):=by
 rw [Bool.eq_iff_iff]
 simp
 omega
theorem z6S {p tb:Nat} {s:PS} (w:World) (h:PA w p tb s):Calls Tryz.prog 33 #[.pointer (some ⟨p,0,none⟩)] w (RetB (decide ((hdT s).kind=0)) w):=by
 obtain ⟨off,c,n,h⟩:=h
 have h0:=h.cells.1
 have h1:=h.hd.1
 have hcap:=h.cap
 clear h
 go_enter Tryz.func33,Tryz.ntmps33
 go_wp2_with fail
 go_ret
 exact ⟨congrArg (fun b=>Ending.returned (.bool b)) (zfg _ 0),rfl⟩
set_option maxRecDepth 100000 in
set_option maxHeartbeats 1000000 in
theorem z9j {p tb:Nat} {s:PS} (k:Nat) (w:World) (h:PA w p tb s) (hk:(hdT s).kind=k) (h0:k≠0):Calls Tryz.prog 99 #[.pointer (some ⟨p,0,none⟩),.int .i64 (k:Int)] w (z7p p tb (hdT s) (popP s) w):=by
 have h2:=h.wf.two (.inr (by omega))
 have hb:=(Below.refl _ w).alloc (Nat.le_refl _) (.cells #[.int .i64 0,.int .i64 0,.int .i64 0,.string { data:=#[] }] 99)
 have HN:=zhi (z1P _ (h.below hb) h2)
 have HZ:=zhi (heap_alloc_new w (.cells #[.int .i64 0,.int .i64 0,.int .i64 0,.string { data:=#[] }] 99))
 obtain ⟨off,c,n,hr⟩:=h.below hb
 have c0:=hr.cells.1
 have d0:=hr.hd.1
 have hcap:=hr.cap
 have hplt:=h.lt.1
 have htlt:=h.lt.2.1
 rw [hk] at d0
 have HB:=zhi hb
 clear hr hb h h2 hk h0
 go_enter Tryz.func99,Tryz.ntmps99
 go_wp2_with fail
 refine HN.out.mono ?_
 rintro e w2 ⟨rfl,hp,hg⟩
 have HZ2:=zhi (z04 hg (by omega) HZ.out)
 have HP:=zhi hp
 have HG:=zhi ((z01 HB.out (some p)).trans hg)
 clear HN hp hg HZ
 unfold tokV
 go_wp2_with (with_reducible refine z52 ?_)
 refine z0a.of (z00 _ rfl _ _ _ rfl _ _ rfl (by rfl) _ _ HZ2.out (by kernel_rfl) (by rfl) (by simp [Value.oneCell']) ?_)
 intro w5 hrow5 hg5
 obtain ⟨j0,j1,j2,j3⟩:=cl4 hrow5
 have HH:Hid (z7p p tb (hdT s) (popP s) w (.returned (tokV (hdT s))) w5):=zhi ⟨rfl,HP.out.other hg5 (by omega) (by omega),z0g HG.out hg5 (Nat.le_refl _)⟩
 clear hrow5 hg5
 go_wp2_with fail
 exact bodyPost_ret (by simp [results,Tryz.results99,go_sem,tokV,j0,j1,j2,j3]) rfl HH.out
set_option maxRecDepth 100000 in
set_option maxHeartbeats 1000000 in
theorem zaA {p tb:Nat} {s:PS} (k:Nat) (w:World) (h:PA w p tb s) (hk:(hdT s).kind≠k):Calls Tryz.prog 99 #[.pointer (some ⟨p,0,none⟩),.int .i64 (k:Int)] w (z7p p tb noT (z0k s) w):=by
 have hb:=(Below.refl _ w).alloc (Nat.le_refl _) (.cells #[.int .i64 0,.int .i64 0,.int .i64 0,.string { data:=#[] }] 99)
 have HN:=zhi (z5E _ (h.below hb))
 have HZ:=zhi (heap_alloc_new w (.cells #[.int .i64 0,.int .i64 0,.int .i64 0,.string { data:=#[] }] 99))
 obtain ⟨off,c,n,hr⟩:=h.below hb
 have c0:=hr.cells.1
 have d0:=hr.hd.1
 have hcap:=hr.cap
 have hplt:=h.lt.1
 have htlt:=h.lt.2.1
 have hne:(((hdT s).kind:Int) != (k:Int))=true:=by rw [bne,zfg]; simpa using hk
 have HB:=zhi hb
 clear hr hb h hk
 go_enter Tryz.func99,Tryz.ntmps99
 go_wp2_with fail
 refine HN.out.mono ?_
 rintro e w2 ⟨⟨v,rfl⟩,hp,hg⟩
 have HZ2:=zhi (z04 hg (by omega) HZ.out)
 have HP:=zhi hp
 have HG:=zhi ((z01 HB.out (some p)).trans hg)
 clear HN hp hg HZ
 go_wp2_with (with_reducible refine z52 ?_)
 refine z0a.of (z00 _ rfl _ _ _ rfl _ _ rfl (by rfl) _ _ HZ2.out (by kernel_rfl) (by rfl) (by simp [Value.oneCell']) ?_)
 intro w5 hrow5 hg5
 obtain ⟨j0,j1,j2,j3⟩:=cl4 hrow5
 have HH:Hid (z7p p tb noT (z0k s) w (.returned (tokV noT)) w5):=zhi ⟨rfl,HP.out.other hg5 (by omega) (by omega),z0g HG.out hg5 (Nat.le_refl _)⟩
 clear hrow5 hg5
 go_wp2_with fail
 exact bodyPost_ret (by simp [results,Tryz.results99,go_sem,tokV,noT,nmB,j0,j1,j2,j3]) rfl HH.out
theorem z5s {p tb:Nat} {s:PS} (k:Nat) (z:Int) (hz:z=(k:Int)) (w:World) (h:PA w p tb s) (h0:k≠0):Calls Tryz.prog 99 #[.pointer (some ⟨p,0,none⟩),.int .i64 z] w (z7p p tb (z07 k s).1 (z07 k s).2 w):=by
 subst hz
 by_cases hk:(hdT s).kind=k
 ·have e:z07 k s=(hdT s,popP s):=by simp [z07,hk]
  rw [e]
  exact z9j k w h hk h0
 ·have e:z07 k s=(noT,z0k s):=by simp [z07,hk]
  rw [e]
  exact zaA k w h hk
def zhu (p tb:Nat) (t:z03) (s':PS) (w:World) (e:Ending) (w':World):Prop:=e=.returned (.string (nmB t))∧PA w' p tb s'∧w.grownBy w' (some p)
set_option maxRecDepth 100000 in
theorem z2T {p tb:Nat} {s:PS} (w:World) (h:PA w p tb s):Calls Tryz.prog 69 #[.pointer (some ⟨p,0,none⟩)] w (zhu p tb (z07 1 s).1.text (z07 1 s).2 w):=by
 have HE:=zhi (z5s 1 1 rfl w h (by decide))
 generalize (z07 1 s).1=t at *
 generalize (z07 1 s).2=s' at *
 have hfd:∀ w:World,(Instr.field 99 (.agg #[.int .i64 (t.kind:Int),.int .i64 (t.line:Int),.int .i64 (t.value:Int),.string (nmB t.text)]) 3).run Tryz.prog w=.ok (.string (nmB t.text)) w:=fun _=>by kernel_rfl
 clear h
 go_enter Tryz.func69,Tryz.ntmps69
 go_wp2_with fail
 refine HE.out.mono ?_
 rintro e w2 ⟨rfl,hp,hg⟩
 have HP:=zhi hp
 have HG:=zhi hg
 clear HE hp hg
 unfold tokV
 go_wp2_with fail
 go_ret
 exact ⟨rfl,HP.out,HG.out⟩
theorem z1h (k:Nat) (s:PS) (h:0<s.rest.length):(z07 k s).2.rest.length≤s.rest.length:=by
 unfold z07
 split
 ·simp only [z0h]; omega
 ·simp only [z1B s h]; omega
end Go.Proofs.YtdplfnemedckaaaGreatDoor
namespace Go.Proofs.YtdplfnemedckaaaGreatDoor
open Go.RowKit
theorem ExV.succ {F:Nat→Prop} {w:World}:∀ (d:Nat) (x:Ex) (v:Value),ExV F w d x v→ExV F w (d+1) x v
 | 0,_,_,h=>h.elim
 | d+1,.mk k o a l s xs,v,⟨A,c,hv,hc,h⟩=>⟨A,c,hv,hc,fun i x hi=>by
   obtain ⟨g,off,c0,c1,c2,c3,c4,c5,hA,hF,h0,h1,h2,h3,h4,h5,hx⟩:=h i x hi
   exact ⟨g,off,c0,c1,c2,c3,c4,c5,hA,hF,h0,h1,h2,h3,h4,h5,ExV.succ d x _ hx⟩⟩
theorem ExV.mono {F:Nat→Prop} {w:World} {d:Nat} {x:Ex} {v:Value} (h:ExV F w d x v):∀ n,ExV F w (d+n) x v
 | 0=>h
 | n+1=>(h.mono n).succ
def XAt (lo:Nat) (w:World) (b:Nat) (x:Ex):Prop:=lo≤b∧∃ d k o a l s A n c,w.heap[b]?=some (.cells #[.int .i64 k,.int .i64 o,.int .i64 a,.int .i64 l,.string s,.slice A n c] 39 (0,0))∧ExV (fun q=>lo≤q∧q<w.heap.size) w d x (.agg #[.int .i64 k,.int .i64 o,.int .i64 a,.int .i64 l,.string s,.slice A n c])
theorem XAt.lt {lo:Nat} {w:World} {b:Nat} {x:Ex} (h:XAt lo w b x):b<w.heap.size:=by
 obtain ⟨_,d,k,o,a,l,s,A,n,c,hr,_⟩:=h
 exact (Array.getElem?_eq_some_iff.1 hr).1
theorem XAt.keep {lo lo':Nat} {w w':World} {b:Nat} {x:Ex} (h:XAt lo w b x) (hl:lo'≤lo) (hs:w.heap.size≤w'.heap.size) (hk:∀ q,lo≤q→q<w.heap.size→w'.heap[q]?=w.heap[q]?):XAt lo' w' b x:=by
 have hlt:=h.lt
 obtain ⟨h1,d,k,o,a,l,s,A,n,c,hr,hx⟩:=h
 exact ⟨by omega,d,k,o,a,l,s,A,n,c,(hk b h1 hlt).trans hr,hx.keep (fun q hq=>⟨by omega,by omega⟩) (fun q hq=>hk q hq.1 hq.2)⟩
theorem XAt.below {lo:Nat} {w w':World} {b:Nat} {x:Ex} (h:XAt lo w b x) (hb:Below w.heap.size w w'):XAt lo w' b x:=h.keep (Nat.le_refl _) hb.size (fun q _ hq=>hb.block q hq)
theorem XAt.grown {lo p:Nat} {w w':World} {b:Nat} {x:Ex} (h:XAt lo w b x) (hg:w.grownBy w' (some p)) (hp:p<lo):XAt lo w' b x:=h.keep (Nat.le_refl _) hg.size (fun q hq hq2=>hg.block q hq2 (fun e=>by injection e with e; omega))
def BinG (lo:Nat) (x:Ex) (w:World) (e:Ending) (w':World):Prop:=∃ b,e=.returned (.pointer (some ⟨b,0,none⟩))∧XAt lo w' b x∧Below w.heap.size w w'
def z59:List z03:=[[124,124],[38,38],[60],[60,61],[61,61],[33,61],[43],[45],[42],[47],[37]]
theorem zeL {lo b1 b2:Nat} {w W:World} {x y:Ex} {k o l:Int} {dx dy:Nat} {c0 c1 c2 c3 c4 c5 e0 e1 e2 e3 e4 e5:Value} {t:TypeId} (hlo:lo≤w.heap.size) (hb:Below w.heap.size w W) (hb1:w.heap.size≤b1) (hb2:w.heap.size≤b2)
  (hx:ExV (fun q=>lo≤q∧q<w.heap.size) w dx x (.agg #[c0,c1,c2,c3,c4,c5])) (hy:ExV (fun q=>lo≤q∧q<w.heap.size) w dy y (.agg #[e0,e1,e2,e3,e4,e5]))
  (h1:W.heap[b1]?=some (.cells #[c0,c1,c2,c3,c4,c5,e0,e1,e2,e3,e4,e5] t (0,0)))
  (h2:W.heap[b2]?=some (.cells #[.int .i64 k,.int .i64 o,.int .i64 0,.int .i64 l,.string ⟨#[]⟩,.slice (some ⟨b1,0,none⟩) 2 2] 39 (0,0))) :
  XAt lo W b2 (.mk k o 0 l ⟨#[]⟩ [x,y]):=by
 have hb1':=(Array.getElem?_eq_some_iff.1 h1).1
 have X:=(hx.keep (G:=fun q=>lo≤q∧q<W.heap.size) (w':=W) (fun q hq=>⟨hq.1,Nat.lt_of_lt_of_le hq.2 hb.size⟩) (fun q hq=>hb.block q hq.2)).mono dy
 have Y:=(hy.keep (G:=fun q=>lo≤q∧q<W.heap.size) (w':=W) (fun q hq=>⟨hq.1,Nat.lt_of_lt_of_le hq.2 hb.size⟩) (fun q hq=>hb.block q hq.2)).mono dx
 rw [Nat.add_comm dy dx] at Y
 exact ⟨by omega,dx+dy+1,k,o,0,l,⟨#[]⟩,_,_,_,h2,_,_,rfl,z2z X Y ⟨by omega,hb1'⟩ h1⟩
set_option maxRecDepth 100000 in
set_option maxHeartbeats 2000000 in
theorem z2D (t:Tok) {lo bx by_:Nat} {x y:Ex} (w:World) (ht:t.text∈z59) (hlo:lo≤w.heap.size) (hx:XAt lo w bx x) (hy:XAt lo w by_ y) :
  Calls Tryz.prog 144 #[tokV t,.pointer (some ⟨bx,0,none⟩),.pointer (some ⟨by_,0,none⟩)] w (BinG lo (binP t x y) w):=by
 have hbx:=hx.lt
 have hby:=hy.lt
 obtain ⟨_,dx,kx,ox,ax,lx,sx,Ax,nx,cx,rx,vx⟩:=hx
 obtain ⟨_,dy,ky,oy,ay,ly,sy,Ay,ny,cy,ry,vy⟩:=hy
 obtain ⟨T,hT⟩:∃ T,T=nmB t.text:=⟨_,rfl⟩
 have hO:Hid (∀ W:World,Below w.heap.size w W→∀ b1 b2:Nat,w.heap.size≤b1→w.heap.size≤b2→W.heap[b1]?=some (.cells #[.int .i64 kx,.int .i64 ox,.int .i64 ax,.int .i64 lx,.string sx,.slice Ax nx cx,.int .i64 ky,.int .i64 oy,.int .i64 ay,.int .i64 ly,.string sy,.slice Ay ny cy] 39 (0,0)) →
   W.heap[b2]?=some (.cells #[.int .i64 (binK t.text),.int .i64 (binO t.text),.int .i64 0,.int .i64 (t.line:Int),.string ⟨#[]⟩,.slice (some ⟨b1,0,none⟩) 2 2] 39 (0,0))→BinG lo (binP t x y) w (.returned (.pointer (some ⟨b2,0,none⟩))) W) :=
  zhi (fun W hb b1 b2 h1 h2 r1 r2=>⟨b2,rfl,zeL hlo hb h1 h2 vx vy r1 r2,hb⟩)
 have hO2:BinG lo (binP t x y) w (.returned (.pointer (some ⟨w.heap.size+1+1,0,none⟩))) (((w.alloc (.cells #[.int .i64 (t.kind:Int),.int .i64 (t.line:Int),.int .i64 (t.value:Int),.string T] 99)).alloc (.cells #[.int .i64 kx,.int .i64 ox,.int .i64 ax,.int .i64 lx,.string sx,.slice Ax nx cx,.int .i64 ky,.int .i64 oy,.int .i64 ay,.int .i64 ly,.string sy,.slice Ay ny cy] 39)).alloc (.cells #[.int .i64 (binK t.text),.int .i64 (binO t.text),.int .i64 0,.int .i64 (t.line:Int),.string ⟨#[]⟩,.slice (some ⟨w.heap.size+1,0,none⟩) 2 2] 39)).drew:=by
  have hb2:=((Below.refl _ w).alloc (Nat.le_refl _) (.cells #[.int .i64 (t.kind:Int),.int .i64 (t.line:Int),.int .i64 (t.value:Int),.string T] 99)).alloc (by simp) (.cells #[.int .i64 kx,.int .i64 ox,.int .i64 ax,.int .i64 lx,.string sx,.slice Ax nx cx,.int .i64 ky,.int .i64 oy,.int .i64 ay,.int .i64 ly,.string sy,.slice Ay ny cy] 39)
  have hb3:=(hb2.alloc (by simp; omega) (.cells #[.int .i64 (binK t.text),.int .i64 (binO t.text),.int .i64 0,.int .i64 (t.line:Int),.string ⟨#[]⟩,.slice (some ⟨w.heap.size+1,0,none⟩) 2 2] 39)).drew
  have r1:=z0G (w.alloc (.cells #[.int .i64 (t.kind:Int),.int .i64 (t.line:Int),.int .i64 (t.value:Int),.string T] 99)) (.cells #[.int .i64 kx,.int .i64 ox,.int .i64 ax,.int .i64 lx,.string sx,.slice Ax nx cx,.int .i64 ky,.int .i64 oy,.int .i64 ay,.int .i64 ly,.string sy,.slice Ay ny cy] 39) (.cells #[.int .i64 (binK t.text),.int .i64 (binO t.text),.int .i64 0,.int .i64 (t.line:Int),.string ⟨#[]⟩,.slice (some ⟨w.heap.size+1,0,none⟩) 2 2] 39)
  have r2:=z0F (w.alloc (.cells #[.int .i64 (t.kind:Int),.int .i64 (t.line:Int),.int .i64 (t.value:Int),.string T] 99)) (.cells #[.int .i64 kx,.int .i64 ox,.int .i64 ax,.int .i64 lx,.string sx,.slice Ax nx cx,.int .i64 ky,.int .i64 oy,.int .i64 ay,.int .i64 ly,.string sy,.slice Ay ny cy] 39) (.cells #[.int .i64 (binK t.text),.int .i64 (binO t.text),.int .i64 0,.int .i64 (t.line:Int),.string ⟨#[]⟩,.slice (some ⟨w.heap.size+1,0,none⟩) 2 2] 39)
  have hs:(w.alloc (.cells #[.int .i64 (t.kind:Int),.int .i64 (t.line:Int),.int .i64 (t.value:Int),.string T] 99)).heap.size=w.heap.size+1:=by simp
  rw [hs] at r1 r2
  exact hO.out _ hb3 _ _ (by omega) (by omega) r1 r2
 have hTL:T.toList=t.text:=by
  rw [hT,Lib.toList_data]
  simp [nmB]
 unfold tokV
 rw [← hT]
 clear hT hO
 obtain ⟨a0,a1,a2,a3,a4,a5⟩:=cl6 rx
 obtain ⟨e0,e1,e2,e3,e4,e5⟩:=cl6 ry
 clear rx ry vx vy
 have HL:=zhi hTL
 have HO:=zhi hO2
 have Ht:=zhi ht
 clear hTL hO2 ht
 go_enter Tryz.func144,Tryz.ntmps144
 go_wp2_with fail
 go_region
 all_goals
  have ht:=Ht.out
  simp only [z59,List.mem_cons,List.not_mem_nil,or_false] at ht
  rcases ht with ht | ht | ht | ht | ht | ht | ht | ht | ht | ht | ht
  all_goals
   have hTL:=HL.out
   have hO:=HO.out
   rw [ht] at hTL hO
   have HO2:=zhi hO
   clear hO ht HO HL Ht
   go_wp2_with fail
   go_ret
   exact HO2.out
end Go.Proofs.YtdplfnemedckaaaGreatDoor
namespace Go.Proofs.YtdplfnemedckaaaGreatDoor
open Go.RowKit
def ExG (p tb:Nat) (x:Ex) (s s':PS) (w:World) (e:Ending) (w':World):Prop:=∃ b,e=.returned (.pointer (some ⟨b,0,none⟩))∧XAt w.heap.size w' b x∧PA w' p tb s'∧w.grownBy w' (some p)∧s'.rest.length≤s.rest.length
def z1K (f:FuncId) (P:P1):Prop:=∀ (p tb:Nat) (s s':PS) (x:Ex) (w:World),PA w p tb s→P s=some (x,s')→Calls Tryz.prog f #[.pointer (some ⟨p,0,none⟩)] w (ExG p tb x s s' w)
def z0B (w:World) (p:Nat):Nat:=match w.cell? ⟨p,0,none⟩ with | some (.slice _ n _)=>n | _=>0
theorem PA.rest {w:World} {p tb:Nat} {s:PS} (h:PA w p tb s):z0B w p=s.rest.length:=by
 obtain ⟨off,c,n,h⟩:=h
 simp [z0B,h.cells.1,h.len]
theorem z1t (w:World) (l:List z03) (t:TypeId):TRow (w.alloc (.cells (l.map fun x=>Value.string (nmB x)).toArray t)) w.heap.size l:=fun i x hi=>by
 rw [cell_of_row _ _ i _ _ _ (heap_alloc_new w _)]
 simp [hi]
theorem z42 {l m:List z03} {s:PS} (h:z0c l s=true) (hl:∀ x∈l,x∈m):(hdT s).text∈m:=by
 simp only [z0c,List.contains_iff_mem] at h
 exact hl _ h
theorem z4D {P:P1} {l:List z03} {n:Nat} {x xr:Ex} {s sr:PS} (h:z2f P l n x s=some (xr,sr)) (hs:z0c l s=true):∃ m y s2,n=m+1∧P (popP s)=some (y,s2)∧z2f P l m (binP (hdT s) x y) s2=some (xr,sr):=by
 cases n with
 | zero=>cases h
 | succ m =>
  simp only [z2f,hs,if_true] at h
  cases hp:P (popP s) with
  | none=>rw [hp] at h; cases h
  | some q=>rw [hp] at h; exact ⟨m,q.1,q.2,rfl,rfl,h⟩
theorem z66 {P:P1} {l:List z03} {n:Nat} {x xr:Ex} {s sr:PS} (h:z2f P l n x s=some (xr,sr)) (hs:z0c l s=false):xr=x∧sr=s:=by
 cases n with
 | zero=>cases h
 | succ m =>
  simp only [z2f,hs] at h
  injection h with h
  injection h with h1 h2
  exact ⟨h1.symm,h2.symm⟩
theorem z2S {P:P1} {l:List z03} {xr:Ex} {s sr:PS} (h:z0v P l s=some (xr,sr)):∃ x1 s1 n,P s=some (x1,s1)∧z2f P l n x1 s1=some (xr,sr):=by
 unfold z0v at h
 cases hp:P s with
 | none=>rw [hp] at h; cases h
 | some q=>rw [hp] at h; exact ⟨q.1,q.2,_,rfl,h⟩
def z30 (P:P1) (l:List z03) (p tb:Nat) (x:Ex) (s s':PS) (w:World) (v:Value) (wr:World):Prop :=
 ∃ b n xx ss,v=.pointer (some ⟨b,0,none⟩)∧z2f P l n xx ss=some (x,s')∧XAt w.heap.size wr b xx∧PA wr p tb ss∧w.grownBy wr (some p)∧ss.rest.length≤s.rest.length
theorem XAt.lo {lo lo':Nat} {w:World} {b:Nat} {x:Ex} (h:XAt lo w b x) (hl:lo'≤lo):XAt lo' w b x:=h.keep hl (Nat.le_refl _) (fun _ _ _=>rfl)
set_option maxRecDepth 100000 in
set_option maxHeartbeats 2000000 in
theorem z9W (P:P1) (hsub:z1K 158 P):z1K 157 (z0v P [[42],[47],[37]]):=by
 intro p tb s s' x w h hP
 obtain ⟨x1,s1,n1,hp1,hloop⟩:=z2S hP
 have HS:=zhi hsub
 have H1:=zhi (hsub p tb s s1 x1 w h hp1)
 have HL:=zhi hloop
 have hplt:=h.lt.1
 clear hsub hP hp1 hloop h
 go_enter Tryz.func157,Tryz.ntmps157
 go_wp2_with fail
 refine H1.out.mono ?_
 rintro e w1 ⟨b1,rfl,hx1,hp1,hg1,hl1⟩
 have HR:Hid (z30 P [[42],[47],[37]] p tb x s s' w (.pointer (some ⟨b1,0,none⟩)) w1):=zhi ⟨b1,n1,x1,s1,rfl,HL.out,hx1,hp1,hg1,hl1⟩
 clear H1 HL hx1 hp1 hg1 hl1
 go_wp2_with fail
 go_loopw [3] (fun v wr=>z30 P [[42],[47],[37]] p tb x s s' w v wr) (fun _ wr=>z0B wr p)
 case atStart=>exact HR.out
 case round =>
  obtain ⟨b,n,xx,ss,rfl,hloop,hx,hp,hg,hl⟩:=hrel
  clear HR
  have hsz:=hg.size
  have hb:=(Below.refl _ wr).alloc (Nat.le_refl _) (.cells #[.string ⟨#[42]⟩,.string ⟨#[47]⟩,.string ⟨#[37]⟩] 9)
  have HRL:=zhi hp.rest
  cases hs:z0c [[42],[47],[37]] ss with
  | true =>
   obtain ⟨m,y,s2,rfl,hsubp,hloop2⟩:=z4D hloop hs
   have h2:=z0t hp.wf (by decide) hs
   have HM:=zhi (z42 (m:=z59) hs (by decide))
   have HSE:=zhi (z0W true [[42],[47],[37]] wr.heap.size 3 3 _ (hp.below hb) hs rfl (Nat.le_refl _) (by omega) (z1t wr [[42],[47],[37]] 9))
   have HN:=zhi (z1P _ (hp.below hb) h2)
   have HX:=zhi (hx.below hb)
   have HG:=zhi (hg.trans (z01 hb (some p)))
   have HL2:=zhi hloop2
   have HSP:=zhi hsubp
   have Hl:=zhi hl
   have H2:=zhi h2
   have hszb:=hb.size
   clear hloop hs hx hp hg hb hloop2 hsubp hl h2
   go_wp2_with fail
   refine HSE.out.mono ?_
   rintro e w2 ⟨rfl,rfl⟩
   go_wp2_with fail
   refine HN.out.mono ?_
   rintro e w2 ⟨rfl,hp2,hg2⟩
   have HC:=zhi (HS.out p tb (popP ss) s2 y w2 hp2 HSP.out)
   have HX2:=zhi (HX.out.grown hg2 hplt)
   have HG2:=zhi (HG.out.trans hg2)
   have hsz2:=hg2.size
   clear HSE HN hp2 hg2 HX HG HSP
   unfold tokV
   go_wp2_with fail
   refine HC.out.mono ?_
   rintro e w3 ⟨b3,rfl,hx3,hp3,hg3,hl3⟩
   have hsz3:=hg3.size
   have HB:=zhi (z2D (hdT ss) w3 HM.out (lo:=w.heap.size) (by omega) (HX2.out.grown hg3 hplt) (hx3.lo (by omega)))
   have HP3:=zhi hp3
   have HG3:=zhi (HG2.out.trans hg3)
   have Hl3:=zhi hl3
   unfold tokV at HB
   clear HC hx3 hp3 hg3 hl3 HX2 HG2
   go_wp2_with fail
   refine HB.out.mono ?_
   rintro e w4 ⟨b4,rfl,hx4,hb4⟩
   have hlen:s2.rest.length<ss.rest.length:=by
    have h1:=Hl3.out
    rw [z0h] at h1
    have:=H2.out
    omega
   have HE:Hid (z30 P [[42],[47],[37]] p tb x s s' w (.pointer (some ⟨b4,0,none⟩)) w4∧z0B w4 p<z0B wr p):=zhi ⟨⟨b4,m,_,s2,rfl,HL2.out,hx4,HP3.out.below hb4,HG3.out.trans (z01 hb4 _),by have:=Hl.out; omega⟩,by rw [(HP3.out.below hb4).rest,HRL.out]; exact hlen⟩
   clear HB hx4 hb4 hlen
   go_wp2_with fail
   exact HE.out
  | false =>
   obtain ⟨rfl,rfl⟩:=z66 hloop hs
   have HSE:=zhi (z0W false [[42],[47],[37]] wr.heap.size 3 3 _ (hp.below hb) hs rfl (Nat.le_refl _) (by omega) (z1t wr [[42],[47],[37]] 9))
   have HE:Hid (ExG p tb x s s' w (.returned (.pointer (some ⟨b,0,none⟩))) _):=zhi ⟨b,rfl,hx.below hb,hp.below hb,hg.trans (z01 hb (some p)),hl⟩
   clear hloop hs hx hp hg hb hl
   go_wp2_with fail
   refine HSE.out.mono ?_
   rintro e w2 ⟨rfl,rfl⟩
   go_wp2_with fail
   go_ret
   exact HE.out
set_option maxRecDepth 100000 in
set_option maxHeartbeats 2000000 in
theorem zcb (P:P1) (hsub:z1K 157 P):z1K 155 (z0v P [[43],[45]]):=by
 intro p tb s s' x w h hP
 obtain ⟨x1,s1,n1,hp1,hloop⟩:=z2S hP
 have HS:=zhi hsub
 have H1:=zhi (hsub p tb s s1 x1 w h hp1)
 have HL:=zhi hloop
 have hplt:=h.lt.1
 clear hsub hP hp1 hloop h
 go_enter Tryz.func155,Tryz.ntmps155
 go_wp2_with fail
 refine H1.out.mono ?_
 rintro e w1 ⟨b1,rfl,hx1,hp1,hg1,hl1⟩
 have HR:Hid (z30 P [[43],[45]] p tb x s s' w (.pointer (some ⟨b1,0,none⟩)) w1):=zhi ⟨b1,n1,x1,s1,rfl,HL.out,hx1,hp1,hg1,hl1⟩
 clear H1 HL hx1 hp1 hg1 hl1
 go_wp2_with fail
 go_loopw [3] (fun v wr=>z30 P [[43],[45]] p tb x s s' w v wr) (fun _ wr=>z0B wr p)
 case atStart=>exact HR.out
 case round =>
  obtain ⟨b,n,xx,ss,rfl,hloop,hx,hp,hg,hl⟩:=hrel
  clear HR
  have hsz:=hg.size
  have hb:=(Below.refl _ wr).alloc (Nat.le_refl _) (.cells #[.string ⟨#[43]⟩,.string ⟨#[45]⟩] 9)
  have HRL:=zhi hp.rest
  cases hs:z0c [[43],[45]] ss with
  | true =>
   obtain ⟨m,y,s2,rfl,hsubp,hloop2⟩:=z4D hloop hs
   have h2:=z0t hp.wf (by decide) hs
   have HM:=zhi (z42 (m:=z59) hs (by decide))
   have HSE:=zhi (z0W true [[43],[45]] wr.heap.size 2 2 _ (hp.below hb) hs rfl (Nat.le_refl _) (by omega) (z1t wr [[43],[45]] 9))
   have HN:=zhi (z1P _ (hp.below hb) h2)
   have HX:=zhi (hx.below hb)
   have HG:=zhi (hg.trans (z01 hb (some p)))
   have HL2:=zhi hloop2
   have HSP:=zhi hsubp
   have Hl:=zhi hl
   have H2:=zhi h2
   have hszb:=hb.size
   clear hloop hs hx hp hg hb hloop2 hsubp hl h2
   go_wp2_with fail
   refine HSE.out.mono ?_
   rintro e w2 ⟨rfl,rfl⟩
   go_wp2_with fail
   refine HN.out.mono ?_
   rintro e w2 ⟨rfl,hp2,hg2⟩
   have HC:=zhi (HS.out p tb (popP ss) s2 y w2 hp2 HSP.out)
   have HX2:=zhi (HX.out.grown hg2 hplt)
   have HG2:=zhi (HG.out.trans hg2)
   have hsz2:=hg2.size
   clear HSE HN hp2 hg2 HX HG HSP
   unfold tokV
   go_wp2_with fail
   refine HC.out.mono ?_
   rintro e w3 ⟨b3,rfl,hx3,hp3,hg3,hl3⟩
   have hsz3:=hg3.size
   have HB:=zhi (z2D (hdT ss) w3 HM.out (lo:=w.heap.size) (by omega) (HX2.out.grown hg3 hplt) (hx3.lo (by omega)))
   have HP3:=zhi hp3
   have HG3:=zhi (HG2.out.trans hg3)
   have Hl3:=zhi hl3
   unfold tokV at HB
   clear HC hx3 hp3 hg3 hl3 HX2 HG2
   go_wp2_with fail
   refine HB.out.mono ?_
   rintro e w4 ⟨b4,rfl,hx4,hb4⟩
   have hlen:s2.rest.length<ss.rest.length:=by
    have h1:=Hl3.out
    rw [z0h] at h1
    have:=H2.out
    omega
   have HE:Hid (z30 P [[43],[45]] p tb x s s' w (.pointer (some ⟨b4,0,none⟩)) w4∧z0B w4 p<z0B wr p):=zhi ⟨⟨b4,m,_,s2,rfl,HL2.out,hx4,HP3.out.below hb4,HG3.out.trans (z01 hb4 _),by have:=Hl.out; omega⟩,by rw [(HP3.out.below hb4).rest,HRL.out]; exact hlen⟩
   clear HB hx4 hb4 hlen
   go_wp2_with fail
   exact HE.out
  | false =>
   obtain ⟨rfl,rfl⟩:=z66 hloop hs
   have HSE:=zhi (z0W false [[43],[45]] wr.heap.size 2 2 _ (hp.below hb) hs rfl (Nat.le_refl _) (by omega) (z1t wr [[43],[45]] 9))
   have HE:Hid (ExG p tb x s s' w (.returned (.pointer (some ⟨b,0,none⟩))) _):=zhi ⟨b,rfl,hx.below hb,hp.below hb,hg.trans (z01 hb (some p)),hl⟩
   clear hloop hs hx hp hg hb hl
   go_wp2_with fail
   refine HSE.out.mono ?_
   rintro e w2 ⟨rfl,rfl⟩
   go_wp2_with fail
   go_ret
   exact HE.out
set_option maxRecDepth 100000 in
set_option maxHeartbeats 2000000 in
theorem zad (P:P1) (hsub:z1K 149 P):z1K 143 (z0v P [[38,38]]):=by
 intro p tb s s' x w h hP
 obtain ⟨x1,s1,n1,hp1,hloop⟩:=z2S hP
 have HS:=zhi hsub
 have H1:=zhi (hsub p tb s s1 x1 w h hp1)
 have HL:=zhi hloop
 have hplt:=h.lt.1
 clear hsub hP hp1 hloop h
 go_enter Tryz.func143,Tryz.ntmps143
 go_wp2_with fail
 refine H1.out.mono ?_
 rintro e w1 ⟨b1,rfl,hx1,hp1,hg1,hl1⟩
 have HR:Hid (z30 P [[38,38]] p tb x s s' w (.pointer (some ⟨b1,0,none⟩)) w1):=zhi ⟨b1,n1,x1,s1,rfl,HL.out,hx1,hp1,hg1,hl1⟩
 clear H1 HL hx1 hp1 hg1 hl1
 go_wp2_with fail
 go_loopw [3] (fun v wr=>z30 P [[38,38]] p tb x s s' w v wr) (fun _ wr=>z0B wr p)
 case atStart=>exact HR.out
 case round =>
  obtain ⟨b,n,xx,ss,rfl,hloop,hx,hp,hg,hl⟩:=hrel
  clear HR
  have hsz:=hg.size
  have hb:=(Below.refl _ wr).alloc (Nat.le_refl _) (.cells #[.string ⟨#[38,38]⟩] 9)
  have HRL:=zhi hp.rest
  cases hs:z0c [[38,38]] ss with
  | true =>
   obtain ⟨m,y,s2,rfl,hsubp,hloop2⟩:=z4D hloop hs
   have h2:=z0t hp.wf (by decide) hs
   have HM:=zhi (z42 (m:=z59) hs (by decide))
   have HSE:=zhi (z0W true [[38,38]] wr.heap.size 1 1 _ (hp.below hb) hs rfl (Nat.le_refl _) (by omega) (z1t wr [[38,38]] 9))
   have HN:=zhi (z1P _ (hp.below hb) h2)
   have HX:=zhi (hx.below hb)
   have HG:=zhi (hg.trans (z01 hb (some p)))
   have HL2:=zhi hloop2
   have HSP:=zhi hsubp
   have Hl:=zhi hl
   have H2:=zhi h2
   have hszb:=hb.size
   clear hloop hs hx hp hg hb hloop2 hsubp hl h2
   go_wp2_with fail
   refine HSE.out.mono ?_
   rintro e w2 ⟨rfl,rfl⟩
   go_wp2_with fail
   refine HN.out.mono ?_
   rintro e w2 ⟨rfl,hp2,hg2⟩
   have HC:=zhi (HS.out p tb (popP ss) s2 y w2 hp2 HSP.out)
   have HX2:=zhi (HX.out.grown hg2 hplt)
   have HG2:=zhi (HG.out.trans hg2)
   have hsz2:=hg2.size
   clear HSE HN hp2 hg2 HX HG HSP
   unfold tokV
   go_wp2_with fail
   refine HC.out.mono ?_
   rintro e w3 ⟨b3,rfl,hx3,hp3,hg3,hl3⟩
   have hsz3:=hg3.size
   have HB:=zhi (z2D (hdT ss) w3 HM.out (lo:=w.heap.size) (by omega) (HX2.out.grown hg3 hplt) (hx3.lo (by omega)))
   have HP3:=zhi hp3
   have HG3:=zhi (HG2.out.trans hg3)
   have Hl3:=zhi hl3
   unfold tokV at HB
   clear HC hx3 hp3 hg3 hl3 HX2 HG2
   go_wp2_with fail
   refine HB.out.mono ?_
   rintro e w4 ⟨b4,rfl,hx4,hb4⟩
   have hlen:s2.rest.length<ss.rest.length:=by
    have h1:=Hl3.out
    rw [z0h] at h1
    have:=H2.out
    omega
   have HE:Hid (z30 P [[38,38]] p tb x s s' w (.pointer (some ⟨b4,0,none⟩)) w4∧z0B w4 p<z0B wr p):=zhi ⟨⟨b4,m,_,s2,rfl,HL2.out,hx4,HP3.out.below hb4,HG3.out.trans (z01 hb4 _),by have:=Hl.out; omega⟩,by rw [(HP3.out.below hb4).rest,HRL.out]; exact hlen⟩
   clear HB hx4 hb4 hlen
   go_wp2_with fail
   exact HE.out
  | false =>
   obtain ⟨rfl,rfl⟩:=z66 hloop hs
   have HSE:=zhi (z0W false [[38,38]] wr.heap.size 1 1 _ (hp.below hb) hs rfl (Nat.le_refl _) (by omega) (z1t wr [[38,38]] 9))
   have HE:Hid (ExG p tb x s s' w (.returned (.pointer (some ⟨b,0,none⟩))) _):=zhi ⟨b,rfl,hx.below hb,hp.below hb,hg.trans (z01 hb (some p)),hl⟩
   clear hloop hs hx hp hg hb hl
   go_wp2_with fail
   refine HSE.out.mono ?_
   rintro e w2 ⟨rfl,rfl⟩
   go_wp2_with fail
   go_ret
   exact HE.out
set_option maxRecDepth 100000 in
set_option maxHeartbeats 2000000 in
theorem z9m (P:P1) (hsub:z1K 143 P):z1K 132 (z0v P [[124,124]]):=by
 intro p tb s s' x w h hP
 obtain ⟨x1,s1,n1,hp1,hloop⟩:=z2S hP
 have HS:=zhi hsub
 have H1:=zhi (hsub p tb s s1 x1 w h hp1)
 have HL:=zhi hloop
 have hplt:=h.lt.1
 clear hsub hP hp1 hloop h
 go_enter Tryz.func132,Tryz.ntmps132
 go_wp2_with fail
 refine H1.out.mono ?_
 rintro e w1 ⟨b1,rfl,hx1,hp1,hg1,hl1⟩
 have HR:Hid (z30 P [[124,124]] p tb x s s' w (.pointer (some ⟨b1,0,none⟩)) w1):=zhi ⟨b1,n1,x1,s1,rfl,HL.out,hx1,hp1,hg1,hl1⟩
 clear H1 HL hx1 hp1 hg1 hl1
 go_wp2_with fail
 go_loopw [3] (fun v wr=>z30 P [[124,124]] p tb x s s' w v wr) (fun _ wr=>z0B wr p)
 case atStart=>exact HR.out
 case round =>
  obtain ⟨b,n,xx,ss,rfl,hloop,hx,hp,hg,hl⟩:=hrel
  clear HR
  have hsz:=hg.size
  have hb:=(Below.refl _ wr).alloc (Nat.le_refl _) (.cells #[.string ⟨#[124,124]⟩] 9)
  have HRL:=zhi hp.rest
  cases hs:z0c [[124,124]] ss with
  | true =>
   obtain ⟨m,y,s2,rfl,hsubp,hloop2⟩:=z4D hloop hs
   have h2:=z0t hp.wf (by decide) hs
   have HM:=zhi (z42 (m:=z59) hs (by decide))
   have HSE:=zhi (z0W true [[124,124]] wr.heap.size 1 1 _ (hp.below hb) hs rfl (Nat.le_refl _) (by omega) (z1t wr [[124,124]] 9))
   have HN:=zhi (z1P _ (hp.below hb) h2)
   have HX:=zhi (hx.below hb)
   have HG:=zhi (hg.trans (z01 hb (some p)))
   have HL2:=zhi hloop2
   have HSP:=zhi hsubp
   have Hl:=zhi hl
   have H2:=zhi h2
   have hszb:=hb.size
   clear hloop hs hx hp hg hb hloop2 hsubp hl h2
   go_wp2_with fail
   refine HSE.out.mono ?_
   rintro e w2 ⟨rfl,rfl⟩
   go_wp2_with fail
   refine HN.out.mono ?_
   rintro e w2 ⟨rfl,hp2,hg2⟩
   have HC:=zhi (HS.out p tb (popP ss) s2 y w2 hp2 HSP.out)
   have HX2:=zhi (HX.out.grown hg2 hplt)
   have HG2:=zhi (HG.out.trans hg2)
   have hsz2:=hg2.size
   clear HSE HN hp2 hg2 HX HG HSP
   unfold tokV
   go_wp2_with fail
   refine HC.out.mono ?_
   rintro e w3 ⟨b3,rfl,hx3,hp3,hg3,hl3⟩
   have hsz3:=hg3.size
   have HB:=zhi (z2D (hdT ss) w3 HM.out (lo:=w.heap.size) (by omega) (HX2.out.grown hg3 hplt) (hx3.lo (by omega)))
   have HP3:=zhi hp3
   have HG3:=zhi (HG2.out.trans hg3)
   have Hl3:=zhi hl3
   unfold tokV at HB
   clear HC hx3 hp3 hg3 hl3 HX2 HG2
   go_wp2_with fail
   refine HB.out.mono ?_
   rintro e w4 ⟨b4,rfl,hx4,hb4⟩
   have hlen:s2.rest.length<ss.rest.length:=by
    have h1:=Hl3.out
    rw [z0h] at h1
    have:=H2.out
    omega
   have HE:Hid (z30 P [[124,124]] p tb x s s' w (.pointer (some ⟨b4,0,none⟩)) w4∧z0B w4 p<z0B wr p):=zhi ⟨⟨b4,m,_,s2,rfl,HL2.out,hx4,HP3.out.below hb4,HG3.out.trans (z01 hb4 _),by have:=Hl.out; omega⟩,by rw [(HP3.out.below hb4).rest,HRL.out]; exact hlen⟩
   clear HB hx4 hb4 hlen
   go_wp2_with fail
   exact HE.out
  | false =>
   obtain ⟨rfl,rfl⟩:=z66 hloop hs
   have HSE:=zhi (z0W false [[124,124]] wr.heap.size 1 1 _ (hp.below hb) hs rfl (Nat.le_refl _) (by omega) (z1t wr [[124,124]] 9))
   have HE:Hid (ExG p tb x s s' w (.returned (.pointer (some ⟨b,0,none⟩))) _):=zhi ⟨b,rfl,hx.below hb,hp.below hb,hg.trans (z01 hb (some p)),hl⟩
   clear hloop hs hx hp hg hb hl
   go_wp2_with fail
   refine HSE.out.mono ?_
   rintro e w2 ⟨rfl,rfl⟩
   go_wp2_with fail
   go_ret
   exact HE.out
theorem zft {P:P1} {l:List z03} {xr:Ex} {s sr:PS} (h:z2G P l s=some (xr,sr)):∃ x1 s1,P s=some (x1,s1)∧((z0c l s1=true∧∃ y s2,P (popP s1)=some (y,s2)∧xr=binP (hdT s1) x1 y∧sr=s2)∨(z0c l s1=false∧xr=x1∧sr=s1)):=by
 unfold z2G at h
 cases hp:P s with
 | none=>rw [hp] at h; cases h
 | some q =>
  obtain ⟨x1,s1⟩:=q
  rw [hp] at h
  refine ⟨x1,s1,rfl,?_⟩
  cases hs:z0c l s1 with
  | true =>
   simp only [hs,if_true] at h
   cases hq:P (popP s1) with
   | none=>rw [hq] at h; cases h
   | some r =>
    rw [hq] at h
    injection h with h
    injection h with h1 h2
    exact .inl ⟨rfl,r.1,r.2,rfl,h1.symm,h2.symm⟩
  | false =>
   simp only [hs] at h
   injection h with h
   injection h with h1 h2
   exact .inr ⟨rfl,h1.symm,h2.symm⟩
set_option maxRecDepth 100000 in
set_option maxHeartbeats 2000000 in
theorem z5R (P:P1) (hsub:z1K 155 P):z1K 149 (z2G P [[60],[60,61],[61,61],[33,61]]):=by
 intro p tb s s' x w h hP
 obtain ⟨xx,ss,hp1,hcase⟩:=zft hP
 have HS:=zhi hsub
 have H1:=zhi (hsub p tb s ss xx w h hp1)
 have HC1:=zhi hcase
 have hplt:=h.lt.1
 clear hsub hP hp1 hcase h
 go_enter Tryz.func149,Tryz.ntmps149
 go_wp2_with fail
 refine H1.out.mono ?_
 rintro e wr ⟨b,rfl,hx,hp,hg,hl⟩
 have hsz:=hg.size
 have hb:=(Below.refl _ wr).alloc (Nat.le_refl _) (.cells #[.string ⟨#[60]⟩,.string ⟨#[60,61]⟩,.string ⟨#[61,61]⟩,.string ⟨#[33,61]⟩] 9)
 clear H1
 rcases HC1.out with ⟨hs,y,s2,hsubp,rfl,rfl⟩ | ⟨hs,rfl,rfl⟩
 ·clear HC1
  have h2:=z0t hp.wf (by decide) hs
  have HM:=zhi (z42 (m:=z59) hs (by decide))
  have HSE:=zhi (z0W true [[60],[60,61],[61,61],[33,61]] wr.heap.size 4 4 _ (hp.below hb) hs rfl (Nat.le_refl _) (by omega) (z1t wr [[60],[60,61],[61,61],[33,61]] 9))
  have HN:=zhi (z1P _ (hp.below hb) h2)
  have HX:=zhi (hx.below hb)
  have HG:=zhi (hg.trans (z01 hb (some p)))
  have HSP:=zhi hsubp
  have Hl:=zhi hl
  have hszb:=hb.size
  clear hs hx hp hg hb hsubp hl h2
  go_wp2_with fail
  refine HSE.out.mono ?_
  rintro e w2 ⟨rfl,rfl⟩
  go_wp2_with fail
  refine HN.out.mono ?_
  rintro e w2 ⟨rfl,hp2,hg2⟩
  have HC:=zhi (HS.out p tb (popP ss) s' y w2 hp2 HSP.out)
  have HX2:=zhi (HX.out.grown hg2 hplt)
  have HG2:=zhi (HG.out.trans hg2)
  have hsz2:=hg2.size
  clear HSE HN hp2 hg2 HX HG HSP
  unfold tokV
  go_wp2_with fail
  refine HC.out.mono ?_
  rintro e w3 ⟨b3,rfl,hx3,hp3,hg3,hl3⟩
  have hsz3:=hg3.size
  have HB:=zhi (z2D (hdT ss) w3 HM.out (lo:=w.heap.size) (by omega) (HX2.out.grown hg3 hplt) (hx3.lo (by omega)))
  have HP3:=zhi hp3
  have HG3:=zhi (HG2.out.trans hg3)
  have Hl3:=zhi hl3
  unfold tokV at HB
  clear HC hx3 hp3 hg3 hl3 HX2 HG2
  go_wp2_with fail
  refine HB.out.mono ?_
  rintro e w4 ⟨b4,rfl,hx4,hb4⟩
  have HE:Hid (ExG p tb (binP (hdT ss) xx y) s s' w (.returned (.pointer (some ⟨b4,0,none⟩))) w4):=zhi ⟨b4,rfl,hx4,HP3.out.below hb4,HG3.out.trans (z01 hb4 _),by
   have h1:=Hl3.out
   rw [z0h] at h1
   have:=Hl.out
   omega⟩
  clear HB hx4 hb4
  go_wp2_with fail
  go_ret
  exact HE.out
 ·clear HC1
  have HSE:=zhi (z0W false [[60],[60,61],[61,61],[33,61]] wr.heap.size 4 4 _ (hp.below hb) hs rfl (Nat.le_refl _) (by omega) (z1t wr [[60],[60,61],[61,61],[33,61]] 9))
  have HE:Hid (ExG p tb x s s' w (.returned (.pointer (some ⟨b,0,none⟩))) _):=zhi ⟨b,rfl,hx.below hb,hp.below hb,hg.trans (z01 hb (some p)),hl⟩
  clear hs hx hp hg hb hl
  go_wp2_with fail
  refine HSE.out.mono ?_
  rintro e w2 ⟨rfl,rfl⟩
  go_wp2_with fail
  go_ret
  exact HE.out
end Go.Proofs.YtdplfnemedckaaaGreatDoor
namespace Go.Proofs.YtdplfnemedckaaaGreatDoor
open Go.RowKit
theorem z0i {w:World} {g:Nat} {cs:Array Value} {t:TypeId} (h:w.heap[g]?=some (.cells cs t (0,0))) (i:Nat):w.frozen? ⟨g,i,none⟩=false:=by simp [World.frozen?,h]
theorem undrew {w w':World} {q:Nat} {row:Option Nat} (h:(w.drewN q).grownBy w' row):w.grownBy w' row:=⟨h.os,h.tape,h.output,h.size,h.block⟩
theorem zho {lo dx:Nat} {w:World} {x:Ex} {k o l:Int} {nm:ByteArray} {c0 c1 c2 c3 c4 c5:Value} {t:TypeId} (hlo:lo≤w.heap.size)
  (hx:ExV (fun q=>lo≤q∧q<w.heap.size) w dx x (.agg #[c0,c1,c2,c3,c4,c5])) :
  XAt lo ((w.alloc (.cells #[c0,c1,c2,c3,c4,c5] t)).alloc (.cells #[.int .i64 k,.int .i64 o,.int .i64 0,.int .i64 l,.string nm,.slice (some ⟨w.heap.size,0,none⟩) 1 1] 39)) (w.heap.size+1) (.mk k o 0 l nm [x]):=by
 have hb:=((Below.refl _ w).alloc (Nat.le_refl _) (.cells #[c0,c1,c2,c3,c4,c5] t)).alloc (by simp) (.cells #[.int .i64 k,.int .i64 o,.int .i64 0,.int .i64 l,.string nm,.slice (some ⟨w.heap.size,0,none⟩) 1 1] 39)
 have r1:=z0G w (.cells #[c0,c1,c2,c3,c4,c5] t) (.cells #[.int .i64 k,.int .i64 o,.int .i64 0,.int .i64 l,.string nm,.slice (some ⟨w.heap.size,0,none⟩) 1 1] 39)
 have r2:=z0F w (.cells #[c0,c1,c2,c3,c4,c5] t) (.cells #[.int .i64 k,.int .i64 o,.int .i64 0,.int .i64 l,.string nm,.slice (some ⟨w.heap.size,0,none⟩) 1 1] 39)
 exact ⟨by omega,dx+1,k,o,0,l,nm,_,_,_,r2,_,_,rfl,z2y hx (fun q hq=>⟨hq.1,Nat.lt_of_lt_of_le hq.2 hb.size⟩) (fun q hq=>hb.block q hq.2) ⟨hlo,by simp; omega⟩ r1⟩
theorem zeB {p tb:Nat} {s s1 s2:PS} {x:Ex} {k o l:Int} {nm:ByteArray} {w w1 w3:World} {dx:Nat} {c0 c1 c2 c3 c4 c5:Value} {t:TypeId} (hg:w.grownBy w1 (some p)) (hl:s1.rest.length≤s.rest.length) (hx:ExV (fun q=>w1.heap.size≤q∧q<w3.heap.size) w3 dx x (.agg #[c0,c1,c2,c3,c4,c5])) (hp3:PA w3 p tb s2) (hg3:w1.grownBy w3 (some p)) (hl3:s2.rest.length≤s1.rest.length) :
  ExG p tb (.mk k o 0 l nm [x]) s s2 w (.returned (.pointer (some ⟨w3.heap.size+1,0,none⟩))) ((w3.alloc (.cells #[c0,c1,c2,c3,c4,c5] t)).alloc (.cells #[.int .i64 k,.int .i64 o,.int .i64 0,.int .i64 l,.string nm,.slice (some ⟨w3.heap.size,0,none⟩) 1 1] 39)):=by
 have h1:=hg.size
 have h3:=hg3.size
 have hb:=((Below.refl _ w3).alloc (Nat.le_refl _) (.cells #[c0,c1,c2,c3,c4,c5] t)).alloc (by simp) (.cells #[.int .i64 k,.int .i64 o,.int .i64 0,.int .i64 l,.string nm,.slice (some ⟨w3.heap.size,0,none⟩) 1 1] 39)
 exact ⟨_,rfl,zho (by omega) (hx.keep (fun q hq=>⟨by omega,hq.2⟩) (fun _ _=>rfl)),hp3.below hb,(hg.trans hg3).trans (z01 hb _),by omega⟩
set_option maxRecDepth 100000 in
set_option maxHeartbeats 2000000 in
theorem zcn (E:P1) (hc:z1K 159 (z1W E)) (n:Nat):z1K 158 (z1g E n):=by
 induction n with
 | zero=>intro p tb s s' x w h hP; cases hP
 | succ n ih =>
  intro p tb s s' x w h hP
  have Ih:=zhi ih
  have HC:=zhi hc
  have c0:=h
  obtain ⟨off,c,m,hr⟩:=c0
  have hcap:=hr.cap
  have c0:=hr.cells.1
  have l0:=hr.hd.2.1
  have hplt:=hr.plt
  clear ih hc hr
  cases hs:z0c [[45]] s with
  | true =>
   simp only [z1g,hs,if_true] at hP
   cases hq:z1g E n (popP s) with
   | none=>rw [hq] at hP; cases hP
   | some q =>
    obtain ⟨y,s2⟩:=q
    rw [hq] at hP
    injection hP with hP
    injection hP with e1 e2
    subst e1 e2
    have HQ:=zhi hq
    have HA:=zhi (fun q=>z0n [45] ⟨#[45]⟩ (w.drewN q) rfl (by decide) (h.keep rfl rfl) hs)
    clear hq hs h
    go_enter Tryz.func158,Tryz.ntmps158
    go_wp2_with fail
    go_quiet (fail)
    go_wp2_with fail
    refine (HA.out _).mono ?_
    rintro e w1 ⟨rfl,hp1,hg1⟩
    have HU:=zhi (Ih.out p tb (popP s) s2 y w1 hp1 HQ.out)
    have HG:=zhi (undrew hg1)
    clear HA hp1 hg1
    go_wp2_with fail
    refine HU.out.mono ?_
    rintro e w3 ⟨b3,rfl,hx3,hp3,hg3,hl3⟩
    obtain ⟨_,dx,kx,ox,ax,lx,sx,Ax,nx,cx,rx,vx⟩:=hx3
    obtain ⟨a0,a1,a2,a3,a4,a5⟩:=cl6 rx
    have HE:=zhi (zeB (t:=39) (k:=5) (o:=1) (l:=((hdT s).line:Int)) (nm:=⟨#[]⟩) (s:=s) HG.out (by rw [z0h]; omega) vx hp3 hg3 hl3)
    clear HU rx vx hp3 hg3 hl3
    go_wp2_with fail
    go_ret
    exact HE.out
  | false =>
   have hs45:=hs
   cases hs2:z0c [[33]] s with
   | true =>
    simp only [z1g,hs45,hs2,if_true,if_false,Bool.false_eq_true] at hP
    cases hq:z1g E n (popP s) with
    | none=>rw [hq] at hP; cases hP
    | some q =>
     obtain ⟨y,s2⟩:=q
     rw [hq] at hP
     injection hP with hP
     injection hP with e1 e2
     subst e1 e2
     have HQ:=zhi hq
     have HA:=zhi (fun q=>z0m [45] ⟨#[45]⟩ (w.drewN q) rfl (h.keep rfl rfl) hs)
     have HS2:=zhi hs2
     clear hq hs h hs45 hs2
     go_enter Tryz.func158,Tryz.ntmps158
     go_wp2_with fail
     go_quiet (fail)
     go_wp2_with fail
     refine (HA.out _).mono ?_
     rintro e w1 ⟨rfl,hp1,hg1⟩
     have HA2:=zhi (z0n [33] ⟨#[33]⟩ w1 rfl (by decide) hp1 HS2.out)
     have HG0:=zhi (undrew hg1)
     clear HA hp1 hg1
     go_wp2_with fail
     refine HA2.out.mono ?_
     rintro e w2 ⟨rfl,hp2,hg2⟩
     have HU:=zhi (Ih.out p tb (popP s) s2 y w2 hp2 HQ.out)
     have HG:=zhi (HG0.out.trans hg2)
     clear HA2 hp2 hg2
     go_wp2_with fail
     refine HU.out.mono ?_
     rintro e w3 ⟨b3,rfl,hx3,hp3,hg3,hl3⟩
     obtain ⟨_,dx,kx,ox,ax,lx,sx,Ax,nx,cx,rx,vx⟩:=hx3
     obtain ⟨a0,a1,a2,a3,a4,a5⟩:=cl6 rx
     have HE:=zhi (zeB (t:=39) (k:=5) (o:=2) (l:=((hdT s).line:Int)) (nm:=⟨#[]⟩) (s:=s) HG.out (by rw [z0h]; omega) vx hp3 hg3 hl3)
     clear HU rx vx hp3 hg3 hl3
     go_wp2_with fail
     go_ret
     exact HE.out
   | false =>
    simp only [z1g,hs45,hs2,if_false,Bool.false_eq_true] at hP
    have HQ:=zhi hP
    have HA:=zhi (fun q=>z0m [45] ⟨#[45]⟩ (w.drewN q) rfl (h.keep rfl rfl) hs)
    have HS2:=zhi hs2
    clear hP hs h hs45 hs2
    go_enter Tryz.func158,Tryz.ntmps158
    go_wp2_with fail
    go_quiet (fail)
    go_wp2_with fail
    refine (HA.out _).mono ?_
    rintro e w1 ⟨rfl,hp1,hg1⟩
    have HA2:=zhi (z0m [33] ⟨#[33]⟩ w1 rfl hp1 HS2.out)
    have HG0:=zhi (undrew hg1)
    clear HA hp1 hg1
    go_wp2_with fail
    refine HA2.out.mono ?_
    rintro e w2 ⟨rfl,hp2,hg2⟩
    have HU:=zhi (HC.out p tb s s' x w2 hp2 HQ.out)
    have HG:=zhi (HG0.out.trans hg2)
    have hsz:=(HG0.out.trans hg2).size
    clear HA2 hp2 hg2
    go_wp2_with fail
    refine HU.out.mono ?_
    rintro e w3 ⟨b3,rfl,hx3,hp3,hg3,hl3⟩
    have HE:Hid (ExG p tb x s s' w (.returned (.pointer (some ⟨b3,0,none⟩))) w3):=zhi ⟨b3,rfl,hx3.lo hsz,hp3,HG.out.trans hg3,hl3⟩
    clear HU hx3 hp3 hg3 hl3
    go_wp2_with fail
    go_ret
    exact HE.out
end Go.Proofs.YtdplfnemedckaaaGreatDoor
namespace Go.Proofs.YtdplfnemedckaaaGreatDoor
open Go.RowKit
theorem zgo {lo dx n0:Nat} {w7 w8 w9 W:World} {y:Ex} {l:Int} {nm:ByteArray} {c0 c1 c2 c3 c4 c5:Value} {t:TypeId} (hv:ExV (fun q=>w7.heap.size≤q∧q<w8.heap.size) w8 dx y (.agg #[c0,c1,c2,c3,c4,c5])) (hb9:Below w8.heap.size w8 w9) (hg9:w9.grownBy W (some lo))
  (hrow:W.heap[lo]?=some (.cells #[.int .i64 4,.int .i64 0,.int .i64 0,.int .i64 l,.string nm,.slice (some ⟨n0,0,none⟩) 1 1] 39 (0,0))) (ho:W.heap[n0]?=some (.cells #[c0,c1,c2,c3,c4,c5] t (0,0))) (hn:lo≤n0) (hlt:lo<w7.heap.size) :
  XAt lo W lo (.mk 4 0 0 l nm [y]):=by
 have h1:=hb9.size
 have h2:=hg9.size
 have hn0:=(Array.getElem?_eq_some_iff.1 ho).1
 exact ⟨Nat.le_refl _,dx+1,4,0,0,l,nm,_,_,_,hrow,_,_,rfl,z2y hv (fun q hq=>⟨by omega,by omega⟩) (fun q hq=>(hg9.block q (by omega) (fun e=>by injection e with e; omega)).trans (hb9.block q hq.2)) ⟨hn,hn0⟩ ho⟩
theorem z6l {E:P1} {s s':PS} {x:Ex} (h:z0p E s=some (x,s')):((hdT s).kind=2∧x=.mk 1 0 ((hdT s).value:Int) ((hdT s).line:Int) ⟨#[]⟩ []∧s'=popP s)∨((hdT s).kind≠2 ∧
  ((z0c [[38]] s=true∧x=.mk 11 0 0 ((hdT s).line:Int) (nmB (z07 1 (popP s)).1.text) []∧s'=(z07 1 (popP s)).2)∨(z0c [[38]] s=false ∧
  ((z0c [[114,101,97,100]] s=true∧x=.mk 12 0 0 ((hdT s).line:Int) ⟨#[]⟩ []∧s'=popP s)∨(z0c [[114,101,97,100]] s=false ∧
  ((z0c [[40]] s=true∧∃ s1,E (popP s)=some (x,s1)∧s'=z09 [41] s1)∨(z0c [[40]] s=false ∧
  ((z0c [[91]] (z07 1 s).2=true∧∃ y s1,E (popP (z07 1 s).2)=some (y,s1)∧x=.mk 4 0 0 ((hdT s).line:Int) (nmB (z07 1 s).1.text) [y]∧s'=z09 [93] s1) ∨
  (z0c [[91]] (z07 1 s).2=false∧x=.mk 13 0 0 ((hdT s).line:Int) (nmB (z07 1 s).1.text) []∧s'=(z07 1 s).2))))))))):=by
 unfold z0p at h
 by_cases hk:(hdT s).kind=2
 ·rw [if_pos hk] at h
  injection h with h
  injection h with h1 h2
  exact .inl ⟨hk,h1.symm,h2.symm⟩
 ·rw [if_neg hk] at h
  refine .inr ⟨hk,?_⟩
  cases h1:z0c [[38]] s with
  | true =>
   simp only [h1,if_true] at h
   injection h with h
   injection h with e1 e2
   exact .inl ⟨rfl,e1.symm,e2.symm⟩
  | false =>
   simp only [h1,if_false,Bool.false_eq_true] at h
   refine .inr ⟨rfl,?_⟩
   cases h2:z0c [[114,101,97,100]] s with
   | true =>
    simp only [h2,if_true] at h
    injection h with h
    injection h with e1 e2
    exact .inl ⟨rfl,e1.symm,e2.symm⟩
   | false =>
    simp only [h2,if_false,Bool.false_eq_true] at h
    refine .inr ⟨rfl,?_⟩
    cases h3:z0c [[40]] s with
    | true =>
     simp only [h3,if_true] at h
     refine .inl ⟨rfl,?_⟩
     cases hq:E (popP s) with
     | none=>rw [hq] at h; cases h
     | some q =>
      obtain ⟨y,s1⟩:=q
      rw [hq] at h
      injection h with h
      injection h with e1 e2
      subst e1
      exact ⟨s1,rfl,e2.symm⟩
    | false =>
     simp only [h3,if_false,Bool.false_eq_true] at h
     refine .inr ⟨rfl,?_⟩
     cases h4:z0c [[91]] (z07 1 s).2 with
     | true =>
      simp only [h4,if_true] at h
      refine .inl ⟨rfl,?_⟩
      cases hq:E (popP (z07 1 s).2) with
      | none=>rw [hq] at h; cases h
      | some q =>
       obtain ⟨y,s1⟩:=q
       rw [hq] at h
       injection h with h
       injection h with e1 e2
       exact ⟨y,s1,rfl,e1.symm,e2.symm⟩
     | false =>
      simp only [h4,if_false,Bool.false_eq_true] at h
      injection h with h
      injection h with e1 e2
      exact .inr ⟨rfl,e1.symm,e2.symm⟩
theorem z0q (x:z03) (s:PS) (h:0<s.rest.length):(z09 x s).rest.length≤s.rest.length:=by
 unfold z09
 split
 ·rw [z0h]; omega
 ·rw [z1B s h]; omega
set_option maxRecDepth 100000 in
set_option maxHeartbeats 2000000 in
theorem z7X (E:P1) (he:z1K 132 E):z1K 160 (z0p E):=by
 intro p tb s s' x w h hP
 have hcase:=z6l hP
 have c0:=h
 obtain ⟨off,c,m,hr⟩:=c0
 have hcap:=hr.cap
 have c0:=hr.cells.1
 have l0:=hr.hd.2.1
 have hplt:=hr.plt
 have htlt:=hr.tlt
 have hb:=(Below.refl _ w).alloc (Nat.le_refl _) (.cells #[.int .i64 0,.int .i64 0,.int .i64 0,.int .i64 ((hdT s).line:Int),.string { data:=#[] },.slice none 0 0] 39)
 have hx:=heap_alloc_new w (.cells #[.int .i64 0,.int .i64 0,.int .i64 0,.int .i64 ((hdT s).line:Int),.string { data:=#[] },.slice none 0 0] 39)
 have hr1:=hr.low hb hplt htlt
 have d0:=hr1.cells.1
 have k0:=hr1.hd.1
 have HE0:=zhi he
 have HB:=zhi hb
 have HXX:=zhi hx
 have HP1:=zhi (h.below hb)
 have HW:=zhi h.wf
 clear he hr hr1 hb hx h hP
 rcases hcase with ⟨hk,rfl,rfl⟩ | ⟨hk,hcase⟩
 ·have h2:=HW.out.two (.inr (by omega))
  have HN:=zhi (z1P _ HP1.out h2)
  rw [hk] at k0
  clear h2 HW
  go_enter Tryz.func160,Tryz.ntmps160
  go_wp2_with fail
  refine HN.out.mono ?_
  rintro e w2 ⟨rfl,hp2,hg2⟩
  have hrow:=z04 hg2 (by omega) HXX.out
  have f0:w2.frozen? ⟨w.heap.size,0,none⟩=false:=z0i hrow 0
  have f2:w2.frozen? ⟨w.heap.size,2,none⟩=false:=z0i hrow 2
  have e0:=cell_of_row _ _ 0 _ _ _ hrow
  have e2:=cell_of_row _ _ 2 _ _ _ hrow
  have hgs:w2.grownBy _ (some w.heap.size):=(z06 w2 ⟨w.heap.size,0,none⟩ (.int .i64 1)).trans (z06 _ ⟨w.heap.size,2,none⟩ (.int .i64 ((hdT s).value:Int)))
  have hrow2:=z0f (i:=2) (.int .i64 ((hdT s).value:Int)) (z0f (i:=0) (.int .i64 1) hrow)
  have hgw:=((z01 HB.out (some p)).trans hg2)
  have HE:Hid (ExG p tb (.mk 1 0 ((hdT s).value:Int) ((hdT s).line:Int) ⟨#[]⟩ []) s (popP s) w (.returned (.pointer (some ⟨w.heap.size,0,none⟩))) _):=zhi ⟨_,rfl,⟨Nat.le_refl _,1,_,_,_,_,_,_,_,_,hrow2,z19⟩,hp2.other hgs (by omega) (by omega),z0g hgw hgs (Nat.le_refl _),by rw [z0h]; omega⟩
  have hfd:∀ w:World,(Instr.field 99 (.agg #[.int .i64 2,.int .i64 ((hdT s).line:Int),.int .i64 ((hdT s).value:Int),.string (nmB (hdT s).text)]) 2).run Tryz.prog w=.ok (.int .i64 ((hdT s).value:Int)) w:=fun _=>by kernel_rfl
  clear HN hp2 hg2 hrow hgs hrow2 hgw
  unfold tokV
  go_wp2_with fail
  go_ret
  exact HE.out
 ·have hk2:(((hdT s).kind:Int) == 2)=false:=by rw [show (2:Int)=((2:Nat):Int) from rfl,zfg]; simpa using hk
  rcases hcase with ⟨h38,rfl,rfl⟩ | ⟨h38,hcase⟩
  ·have HL:=zhi (z1h 1 (popP s))
   have HW2:=zhi HW.out.pos
   have HT2:=zhi (z0t HW.out (by decide) h38)
   have HA1:=zhi (z0n [38] ⟨#[38]⟩ _ rfl (by decide) HP1.out h38)
   clear hk h38 HW
   go_enter Tryz.func160,Tryz.ntmps160
   go_wp2_with fail
   refine HA1.out.mono ?_
   rintro e w2 ⟨rfl,hp2,hg2⟩
   have HN:=zhi (z2T _ hp2)
   have HG2:=zhi hg2
   clear HA1 hp2 hg2
   go_wp2_with fail
   refine HN.out.mono ?_
   rintro e w3 ⟨rfl,hp3,hg3⟩
   have hg13:=HG2.out.trans hg3
   have hrow:=z04 hg13 (by omega) HXX.out
   have f0:w3.frozen? ⟨w.heap.size,0,none⟩=false:=z0i hrow 0
   have f4:w3.frozen? ⟨w.heap.size,4,none⟩=false:=z0i hrow 4
   have e0:=cell_of_row _ _ 0 _ _ _ hrow
   have e4:=cell_of_row _ _ 4 _ _ _ hrow
   have hgs:w3.grownBy _ (some w.heap.size):=(z06 w3 ⟨w.heap.size,0,none⟩ (.int .i64 11)).trans (z06 _ ⟨w.heap.size,4,none⟩ (.string (nmB (z07 1 (popP s)).1.text)))
   have hrow2:=z0f (i:=4) (.string (nmB (z07 1 (popP s)).1.text)) (z0f (i:=0) (.int .i64 11) hrow)
   have hgw:=((z01 HB.out (some p)).trans hg13)
   have HE:Hid (ExG p tb (.mk 11 0 0 ((hdT s).line:Int) (nmB (z07 1 (popP s)).1.text) []) s (z07 1 (popP s)).2 w (.returned (.pointer (some ⟨w.heap.size,0,none⟩))) _):=zhi ⟨_,rfl,⟨Nat.le_refl _,1,_,_,_,_,_,_,_,_,hrow2,z19⟩,hp3.other hgs (by omega) (by omega),z0g hgw hgs (Nat.le_refl _),by
    have h5:=HL.out (by rw [z0h]; have:=HT2.out; omega)
    rw [z0h] at h5
    omega⟩
   clear HN hp3 hg3 hrow hgs hrow2 hgw hg13 HG2
   go_wp2_with fail
   go_ret
   exact HE.out
  ·rcases hcase with ⟨hrd,rfl,rfl⟩ | ⟨hrd,hcase⟩
   ·have HA1:=zhi (z0m [38] ⟨#[38]⟩ _ rfl HP1.out h38)
    have HRD:=zhi hrd
    clear hk h38 hrd HW
    go_enter Tryz.func160,Tryz.ntmps160
    go_wp2_with fail
    refine HA1.out.mono ?_
    rintro e w2 ⟨rfl,hp2,hg2⟩
    have HA2:=zhi (z0n [114,101,97,100] ⟨#[114,101,97,100]⟩ _ rfl (by decide) hp2 HRD.out)
    have HG2:=zhi hg2
    clear HA1 hp2 hg2
    go_wp2_with fail
    refine HA2.out.mono ?_
    rintro e w3 ⟨rfl,hp3,hg3⟩
    have hg13:=HG2.out.trans hg3
    have hrow:=z04 hg13 (by omega) HXX.out
    have f0:w3.frozen? ⟨w.heap.size,0,none⟩=false:=z0i hrow 0
    have e0:=cell_of_row _ _ 0 _ _ _ hrow
    have hgs:w3.grownBy _ (some w.heap.size):=z06 w3 ⟨w.heap.size,0,none⟩ (.int .i64 12)
    have hrow2:=z0f (i:=0) (.int .i64 12) hrow
    have hgw:=((z01 HB.out (some p)).trans hg13)
    have HE:Hid (ExG p tb (.mk 12 0 0 ((hdT s).line:Int) ⟨#[]⟩ []) s (popP s) w (.returned (.pointer (some ⟨w.heap.size,0,none⟩))) _):=zhi ⟨_,rfl,⟨Nat.le_refl _,1,_,_,_,_,_,_,_,_,hrow2,z19⟩,hp3.other hgs (by omega) (by omega),z0g hgw hgs (Nat.le_refl _),by rw [z0h]; omega⟩
    clear HA2 hp3 hg3 hrow hgs hrow2 hgw hg13 HG2
    go_wp2_with fail
    go_ret
    exact HE.out
   ·rcases hcase with ⟨h40,s1,hE,rfl⟩ | ⟨h40,hcase⟩
    ·skip
     have HA1:=zhi (z0m [38] ⟨#[38]⟩ _ rfl HP1.out h38)
     have HRD:=zhi hrd
     have H40:=zhi h40
     have HEE:=zhi hE
     clear hk h38 hrd h40 hE HW
     go_enter Tryz.func160,Tryz.ntmps160
     go_wp2_with fail
     refine HA1.out.mono ?_
     rintro e w2 ⟨rfl,hp2,hg2⟩
     have HA2:=zhi (z0m [114,101,97,100] ⟨#[114,101,97,100]⟩ _ rfl hp2 HRD.out)
     have HG2:=zhi ((z01 HB.out (some p)).trans hg2)
     clear HA1 hp2 hg2
     go_wp2_with fail
     refine HA2.out.mono ?_
     rintro e w3 ⟨rfl,hp3,hg3⟩
     have HA3:=zhi (z0n [40] ⟨#[40]⟩ _ rfl (by decide) hp3 H40.out)
     have HG3:=zhi (HG2.out.trans hg3)
     clear HA2 hp3 hg3 HG2
     go_wp2_with fail
     refine HA3.out.mono ?_
     rintro e w4 ⟨rfl,hp4,hg4⟩
     have HC:=zhi (HE0.out p tb (popP s) s1 x w4 hp4 HEE.out)
     have HG4:=zhi (HG3.out.trans hg4)
     clear HA3 hp4 hg4 HG3
     go_wp2_with fail
     refine HC.out.mono ?_
     rintro e w5 ⟨b5,rfl,hx5,hp5,hg5,hl5⟩
     have hs4:=HG4.out.size
     have HD:=zhi (z0r [41] ⟨#[41]⟩ _ rfl (by decide) hp5)
     have HX5:=zhi (hx5.lo hs4)
     have HG5:=zhi (HG4.out.trans hg5)
     have HL5:=zhi hl5
     have HW5:=zhi hp5.wf.pos
     clear HC hx5 hp5 hg5 hl5 HG4
     go_wp2_with fail
     refine HD.out.mono ?_
     rintro e w6 ⟨⟨v,rfl⟩,hp6,hg6⟩
     have HE:Hid (ExG p tb x s (z09 [41] s1) w (.returned (.pointer (some ⟨b5,0,none⟩))) w6):=zhi ⟨b5,rfl,HX5.out.grown hg6 hplt,hp6,HG5.out.trans hg6,by
      have:=z0q [41] s1 HW5.out
      have h5:=HL5.out
      rw [z0h] at h5
      omega⟩
     clear HD hp6 hg6
     go_wp2_with fail
     go_ret
     exact HE.out
    ·have HA1:=zhi (z0m [38] ⟨#[38]⟩ _ rfl HP1.out h38)
     have HRD:=zhi hrd
     have H40:=zhi h40
     have HCA:=zhi hcase
     have HLE:=zhi (z1h 1 s HW.out.pos)
     clear hk h38 hrd h40 hcase
     go_enter Tryz.func160,Tryz.ntmps160
     go_wp2_with fail
     refine HA1.out.mono ?_
     rintro e w2 ⟨rfl,hp2,hg2⟩
     have HA2:=zhi (z0m [114,101,97,100] ⟨#[114,101,97,100]⟩ _ rfl hp2 HRD.out)
     have HG2:=zhi hg2
     clear HA1 hp2 hg2
     go_wp2_with fail
     refine HA2.out.mono ?_
     rintro e w3 ⟨rfl,hp3,hg3⟩
     have HA3:=zhi (z0m [40] ⟨#[40]⟩ _ rfl hp3 H40.out)
     have HG3:=zhi (HG2.out.trans hg3)
     clear HA2 hp3 hg3 HG2
     go_wp2_with fail
     refine HA3.out.mono ?_
     rintro e w4 ⟨rfl,hp4,hg4⟩
     have HN:=zhi (z2T _ hp4)
     have HG4:=zhi (HG3.out.trans hg4)
     clear HA3 hp4 hg4 HG3
     go_wp2_with fail
     refine HN.out.mono ?_
     rintro e w5 ⟨rfl,hp5,hg5⟩
     have hg15:=HG4.out.trans hg5
     have hrow:=z04 hg15 (by omega) HXX.out
     have f0:w5.frozen? ⟨w.heap.size,0,none⟩=false:=z0i hrow 0
     have f4:w5.frozen? ⟨w.heap.size,4,none⟩=false:=z0i hrow 4
     have e0:=cell_of_row _ _ 0 _ _ _ hrow
     have e4:=cell_of_row _ _ 4 _ _ _ hrow
     have hgs:w5.grownBy _ (some w.heap.size):=(z06 w5 ⟨w.heap.size,0,none⟩ (.int .i64 13)).trans (z06 _ ⟨w.heap.size,4,none⟩ (.string (nmB (z07 1 s).1.text)))
     have hrow2:=z0f (i:=4) (.string (nmB (z07 1 s).1.text)) (z0f (i:=0) (.int .i64 13) hrow)
     have hgw:=((z01 HB.out (some p)).trans hg15)
     have hp6:=hp5.other hgs (by omega) (by omega)
     have hg6:=z0g hgw hgs (Nat.le_refl _)
     have HROW:=zhi hrow2
     have HG6:=zhi hg6
     rcases HCA.out with ⟨h91,y,s1,hE,rfl,rfl⟩ | ⟨h91,rfl,rfl⟩
     ·have HA4:=zhi (z0n [91] ⟨#[91]⟩ _ rfl (by decide) hp6 h91)
      have HEE:=zhi hE
      clear HN hp5 hg5 hrow hgs hrow2 hgw hg15 hp6 hg6 h91 hE HCA
      go_wp2_with fail
      refine HA4.out.mono ?_
      rintro e w7 ⟨rfl,hp7,hg7⟩
      have HC:=zhi (HE0.out p tb (popP (z07 1 s).2) s1 y w7 hp7 HEE.out)
      have HROW7:=zhi (z04 hg7 (by omega) HROW.out)
      have HG7:=zhi (HG6.out.trans hg7)
      have hs7:=(HG6.out.trans hg7).size
      clear HA4 hp7 hg7 HROW HG6
      go_wp2_with fail
      refine HC.out.mono ?_
      rintro e w8 ⟨b8,rfl,hx8,hp8,hg8,hl8⟩
      obtain ⟨_,dx,kx,ox,ax,lx,sx,Ax,nx,cx,rx,vx⟩:=hx8
      obtain ⟨a0,a1,a2,a3,a4,a5⟩:=cl6 rx
      have hxlt:=(Array.getElem?_eq_some_iff.1 HROW7.out).1
      have hrow8:=z04 hg8 (by omega) HROW7.out
      have hb9:=(Below.refl _ w8).alloc (Nat.le_refl _) (.cells #[.int .i64 kx,.int .i64 ox,.int .i64 ax,.int .i64 lx,.string sx,.slice Ax nx cx] 39)
      have hrow9:=(hb9.block _ (Array.getElem?_eq_some_iff.1 hrow8).1).trans hrow8
      have ho9:=heap_alloc_new w8 (.cells #[.int .i64 kx,.int .i64 ox,.int .i64 ax,.int .i64 lx,.string sx,.slice Ax nx cx] 39)
      have fz:=z0i hrow9
      have g0:=fz 0
      have g5:=fz 5
      have i0:=cell_of_row _ _ 0 _ _ _ hrow9
      have i5:=cell_of_row _ _ 5 _ _ _ hrow9
      have hg9:(w8.alloc (.cells #[.int .i64 kx,.int .i64 ox,.int .i64 ax,.int .i64 lx,.string sx,.slice Ax nx cx] 39)).grownBy _ (some w.heap.size):=(z06 _ ⟨w.heap.size,0,none⟩ (.int .i64 4)).trans (z06 _ ⟨w.heap.size,5,none⟩ (.slice (some ⟨w8.heap.size,0,none⟩) 1 1))
      have hrow10:=z0f (i:=5) (.slice (some ⟨w8.heap.size,0,none⟩) 1 1) (z0f (i:=0) (.int .i64 4) hrow9)
      have hs8:=hg8.size
      have ho10:=z04 hg9 (by omega) ho9
      have hp10:=(hp8.below hb9).other hg9 (by omega) (by omega)
      have HG10:=zhi (z0g ((HG7.out.trans hg8).trans (z01 hb9 _)) hg9 (Nat.le_refl _))
      have HX10:=zhi (zgo (nm:=nmB (z07 1 s).1.text) (l:=((hdT s).line:Int)) vx hb9 hg9 hrow10 ho10 (by omega) hxlt)
      have HD:=zhi (z0r [93] ⟨#[93]⟩ _ rfl (by decide) hp10)
      have HL8:=zhi hl8
      have HW8:=zhi hp8.wf.pos
      clear HC rx vx hp8 hg8 hb9 hrow8 hrow9 ho9 fz hg9 hrow10 ho10 hp10 HG7 HROW7
      go_wp2_with fail
      refine HD.out.mono ?_
      rintro e w11 ⟨⟨v,rfl⟩,hp11,hg11⟩
      have HE:Hid (ExG p tb (.mk 4 0 0 ((hdT s).line:Int) (nmB (z07 1 s).1.text) [y]) s (z09 [93] s1) w (.returned (.pointer (some ⟨w.heap.size,0,none⟩))) w11):=zhi ⟨_,rfl,HX10.out.grown hg11 hplt,hp11,HG10.out.trans hg11,by
       have:=z0q [93] s1 HW8.out
       have h5:=HL8.out
       rw [z0h] at h5
       have:=HLE.out
       omega⟩
      clear HD hp11 hg11
      go_wp2_with fail
      go_ret
      exact HE.out
     ·have HA4:=zhi (z0m [91] ⟨#[91]⟩ _ rfl hp6 h91)
      clear HN hp5 hg5 hrow hgs hrow2 hgw hg15 hp6 hg6 h91 HCA
      go_wp2_with fail
      refine HA4.out.mono ?_
      rintro e w7 ⟨rfl,hp7,hg7⟩
      have HE:Hid (ExG p tb (.mk 13 0 0 ((hdT s).line:Int) (nmB (z07 1 s).1.text) []) s (z07 1 s).2 w (.returned (.pointer (some ⟨w.heap.size,0,none⟩))) w7):=zhi ⟨_,rfl,⟨Nat.le_refl _,1,_,_,_,_,_,_,_,_,z04 hg7 (by omega) HROW.out,z19⟩,hp7,HG6.out.trans hg7,HLE.out⟩
      clear HA4 hp7 hg7
      go_wp2_with fail
      go_ret
      exact HE.out
end Go.Proofs.YtdplfnemedckaaaGreatDoor
namespace Go.Proofs.YtdplfnemedckaaaGreatDoor
open Go.RowKit
structure ArgG (lw hi base d:Nat) (wr:World) (v:Value) (xs:List Ex) (L:List Value):Prop where
 own:wr.ownsRow base 39 6 v xs.length L
 at_:∀ j x,xs[j]?=some x→∃ c0 c1 c2 c3 c4 c5,L[j * 6]?=some c0∧L[j * 6+1]?=some c1∧L[j * 6+2]?=some c2∧L[j * 6+3]?=some c3∧L[j * 6+4]?=some c4∧L[j * 6+5]?=some c5∧ExV (fun b=>(lw≤b∧b<hi∨base≤b)∧b<wr.heap.size∧v.ownBlock≠some b) wr d x (.agg #[c0,c1,c2,c3,c4,c5])
theorem ArgG.nil (lw hi base d:Nat) (w:World):ArgG lw hi base d w (.slice none 0 0) [] []:=⟨World.ownsRow_nil _ _ _ _,fun j x h=>by simp at h⟩
theorem ArgG.grown {lw hi base d g:Nat} {w w':World} {v:Value} {xs:List Ex} {L:List Value} (h:ArgG lw hi base d w v xs L) (hg:w.grownBy w' (some g)) (hb:g<base) (hgl:g<lw∨hi≤g):ArgG lw hi base d w' v xs L:=by
 refine ⟨?_,fun j x hj=>?_⟩
 ·rcases h.own.2 with hn | ⟨g',cap,cur,e,hb',hh,rest⟩
  ·exact ⟨h.own.1,.inl hn⟩
  ·exact ⟨h.own.1,.inr ⟨g',cap,cur,e,hb',(hg.block g' (Array.getElem?_eq_some_iff.1 hh).1 (fun e=>by injection e with e; omega)).trans hh,rest⟩⟩
 ·obtain ⟨c0,c1,c2,c3,c4,c5,e0,e1,e2,e3,e4,e5,hx⟩:=h.at_ j x hj
  exact ⟨c0,c1,c2,c3,c4,c5,e0,e1,e2,e3,e4,e5,z0J hx (fun k hk=>⟨⟨hk.1,Nat.lt_of_lt_of_le hk.2.1 hg.size,hk.2.2⟩,hk.2.1,by have:=hk.1; omega⟩) hg⟩
theorem ArgG.push {lw hi base d g:Nat} {w wa w':World} {v:Value} {xs:List Ex} {L:List Value} {x:Ex} {cap:Nat} {c0 c1 c2 c3 c4 c5:Value} {F:Nat→Prop} (h:ArgG lw hi base d w v xs L) (hx:ExV F w d x (.agg #[c0,c1,c2,c3,c4,c5])) (hF:∀ b,F b→(lw≤b∧b<hi∨base≤b)∧b<w.heap.size∧v.ownBlock≠some b)
  (hown:w'.ownsRow base 39 6 (.slice (some ⟨g,0,none⟩) (xs.length+1) cap) (xs.length+1) (L++[c0,c1,c2,c3,c4,c5])) (ha:Below w.heap.size w wa) (hg:wa.grownBy w' v.ownBlock) (hat:v.ownBlock=some g∨g=wa.heap.size) :
  ArgG lw hi base d w' (.slice (some ⟨g,0,none⟩) (xs.length+1) cap) (xs++[x]) (L++[c0,c1,c2,c3,c4,c5]):=by
 have hL:L.length=xs.length * 6:=h.own.1
 have step:∀ {F:Nat→Prop} {y:Ex} {u:Value},ExV F w d y u→(∀ b,F b→(lw≤b∧b<hi∨base≤b)∧b<w.heap.size∧v.ownBlock≠some b)→ExV (fun b=>(lw≤b∧b<hi∨base≤b)∧b<w'.heap.size∧(Value.slice (some ⟨g,0,none⟩) (xs.length+1) cap).ownBlock≠some b) w' d y u:=fun hy hF=>hy.keep (fun b hb=>by
   obtain ⟨h1,h2,h3⟩:=hF b hb
   refine ⟨h1,Nat.lt_of_lt_of_le h2 (Nat.le_trans ha.size hg.size),?_⟩
   intro e
   have e2:g=b:=by simpa [Value.ownBlock] using e
   subst e2
   rcases hat with hh | hh
   ·exact h3 hh
   ·have:=ha.size
    omega) (fun b hb=>by
   obtain ⟨h1,h2,h3⟩:=hF b hb
   exact (hg.block b (Nat.lt_of_lt_of_le h2 ha.size) (fun e=>h3 e.symm)).trans (ha.block b h2))
 refine ⟨by simpa using hown,fun j y hj=>?_⟩
 rcases Nat.lt_or_ge j xs.length with hlt | hge
 ·rw [List.getElem?_append_left hlt] at hj
  obtain ⟨d0,d1,d2,d3,d4,d5,e0,e1,e2,e3,e4,e5,hy⟩:=h.at_ j y hj
  have hl:∀ k u,L[k]?=some u→(L++[c0,c1,c2,c3,c4,c5])[k]?=some u:=fun k u hk=>by
   have hk2:k<L.length:=by
    rcases Nat.lt_or_ge k L.length with h' | h'
    ·exact h'
    ·rw [List.getElem?_eq_none h'] at hk; cases hk
   rw [List.getElem?_append_left hk2]; exact hk
  exact ⟨d0,d1,d2,d3,d4,d5,hl _ _ e0,hl _ _ e1,hl _ _ e2,hl _ _ e3,hl _ _ e4,hl _ _ e5,step hy (fun b hb=>hb)⟩
 ·have hjx:j=xs.length:=by
   rcases Nat.lt_or_ge xs.length j with h' | h'
   ·rw [List.getElem?_eq_none (by simp; omega)] at hj; cases hj
   ·omega
  subst hjx
  simp at hj
  subst hj
  have hr:∀ k,(L++[c0,c1,c2,c3,c4,c5])[xs.length * 6+k]?=[c0,c1,c2,c3,c4,c5][k]?:=fun k=>by
   rw [List.getElem?_append_right (by omega)]
   congr 1
   omega
  exact ⟨c0,c1,c2,c3,c4,c5,hr 0,hr 1,hr 2,hr 3,hr 4,hr 5,step hx hF⟩
theorem ArgG.row {lw hi base d:Nat} {w:World} {A:Option Addr} {n c:Nat} {xs:List Ex} {L:List Value} (h:ArgG lw hi base d w (.slice A n c) xs L):n=xs.length∧RowE (fun b=>(lw≤b∧b<hi∨base≤b)∧b<w.heap.size) w d xs A c:=by
 rcases h.own.2 with ⟨e,h0⟩ | ⟨g,cap,cur,e,hb,hh,hc,_⟩
 ·injection e with e1 e2 e3
  subst e1 e2 e3
  exact ⟨h0.symm,by rw [h0]; exact Nat.le_refl _,fun i x hi=>by rw [List.eq_nil_of_length_eq_zero h0] at hi; simp at hi⟩
 ·injection e with e1 e2 e3
  subst e1 e2 e3
  refine ⟨rfl,hc,fun i x hi=>?_⟩
  obtain ⟨c0,c1,c2,c3,c4,c5,e0,e1,e2,e3,e4,e5,hx⟩:=h.at_ i x hi
  have hi2:i<xs.length:=by
   rcases Nat.lt_or_ge i xs.length with h' | h'
   ·exact h'
   ·rw [List.getElem?_eq_none h'] at hi; cases hi
  have hcell:∀ k u,L[k]?=some u→w.cell? ⟨g,0+k,none⟩=some u:=fun k u hk=>by
   rw [Nat.zero_add]
   have hk2:k<L.length:=by
    rcases Nat.lt_or_ge k L.length with h' | h'
    ·exact h'
    ·rw [List.getElem?_eq_none h'] at hk; cases hk
   exact (h.own.cellAt k (by have:=h.own.1; omega)).trans hk
  exact ⟨g,0,c0,c1,c2,c3,c4,c5,rfl,⟨.inr hb,(Array.getElem?_eq_some_iff.1 hh).1⟩,hcell _ _ e0,hcell _ _ e1,hcell _ _ e2,hcell _ _ e3,hcell _ _ e4,hcell _ _ e5,hx.keep (fun b hb=>⟨hb.1,hb.2.1⟩) (fun _ _=>rfl)⟩
theorem ArgG.mono {lw hi base d:Nat} {w:World} {v:Value} {xs:List Ex} {L:List Value} (h:ArgG lw hi base d w v xs L) (n:Nat):ArgG lw hi base (d+n) w v xs L :=
 ⟨h.own,fun j x hj=>by
  obtain ⟨c0,c1,c2,c3,c4,c5,e0,e1,e2,e3,e4,e5,hx⟩:=h.at_ j x hj
  exact ⟨c0,c1,c2,c3,c4,c5,e0,e1,e2,e3,e4,e5,hx.mono n⟩⟩
theorem z1q {ops:Array Oper} {o:Oper} {a:Act} {K:Act→World→Prop} {Q:Exit→Act→World→Prop} {E:Prop} (w:World) (hgd:o.guard=none) (s x:Operand)
  (ho:o.op=.call { callee:=.builtin .append,args:=#[s,x],argTypes:=#[37,37] }) (lw hi base d:Nat) (v:Value) (xs:List Ex) (L:List Value) (y:Ex) (k o' a' l':Int) (t:ByteArray) (A:Option Addr) (n c:Nat) (F:Nat→Prop)
  (hs:a.eval s=v) (hx:a.eval x=.slice (some ⟨w.heap.size,0,none⟩) 1 1) (h:ArgG lw hi base d w v xs L) (hlen:xs.length≤1000000) (hbase:base≤w.heap.size)
  (hy:ExV F w d y (.agg #[.int .i64 k,.int .i64 o',.int .i64 a',.int .i64 l',.string t,.slice A n c])) (hF:∀ b,F b→(lw≤b∧b<hi∨base≤b)∧b<w.heap.size∧v.ownBlock≠some b)
  (hk:∀ g cap w',ArgG lw hi base d w' (.slice (some ⟨g,0,none⟩) (xs.length+1) cap) (xs++[y]) (L++[.int .i64 k,.int .i64 o',.int .i64 a',.int .i64 l',.string t,.slice A n c])→w.grownBy w' v.ownBlock→(v.ownBlock=some g∨w.heap.size≤g)→K (a.put o.dst (.slice (some ⟨g,0,none⟩) (xs.length+1) cap)) w') :
  if Region.wanted o (yielded ops a.tmps)=true then Oper.wp Tryz.prog o a (w.alloc (.cells #[.int .i64 k,.int .i64 o',.int .i64 a',.int .i64 l',.string t,.slice A n c] 39)) K Q else E:=by
 obtain ⟨i,hi,hz,hsz,hby⟩:=info_parts z3Q
 refine step_append_lies _ hgd s x _ ho base 39 i _ 6 72 Tryz.underlying37 hi hz hsz hby rfl (by decide) v xs.length L hs (h.own.alloc _) ⟨w.heap.size,0,none⟩ 1 1 [.int .i64 k,.int .i64 o',.int .i64 a',.int .i64 l',.string t,.slice A n c] hx (by simp) ?_ ?_ (by decide) (by unfold maxLen; omega) (by omega) (by simp; omega) _ rfl fun g cap w' h1 h2 h3 _=>hk g cap w' (h.push hy hF h1 ((Below.refl _ w).alloc (Nat.le_refl _) _) h2 h3) ((World.grownBy_alloc _ _ _).trans h2) (h3.imp id (fun e=>by rw [e]; simp))
 ·intro j u hu
  rw [Addr.add_lit,Nat.zero_add]
  exact (cell_of_row _ _ _ _ _ _ (heap_alloc_new w _)).trans (by simpa using hu)
 ·intro u hu
  simp at hu
  rcases hu with rfl | rfl | rfl | rfl | rfl | rfl <;> rfl
theorem z3y {ops:Array Oper} {o:Oper} {a:Act} {K:Act→World→Prop} {Q:Exit→Act→World→Prop} {E:Prop} (w:World) (hgd:o.guard=none) (s x:Operand)
  (ho:o.op=.call { callee:=.builtin .append,args:=#[s,x],argTypes:=#[37,37] }) (lw hi base d bx:Nat) (v:Value) (xs:List Ex) (L:List Value) (y:Ex) (k o' a' l':Int) (t:ByteArray) (A:Option Addr) (n c:Nat) (F:Nat→Prop)
  (hs:a.eval s=v) (hx:a.eval x=.slice (some ⟨bx,0,none⟩) 1 1) (hr:w.heap[bx]?=some (.cells #[.int .i64 k,.int .i64 o',.int .i64 a',.int .i64 l',.string t,.slice A n c] 39 (0,0))) (h:ArgG lw hi base d w v xs L) (hlen:xs.length≤1000000) (hbase:base≤w.heap.size)
  (hy:ExV F w d y (.agg #[.int .i64 k,.int .i64 o',.int .i64 a',.int .i64 l',.string t,.slice A n c])) (hF:∀ b,F b→(lw≤b∧b<hi∨base≤b)∧b<w.heap.size∧v.ownBlock≠some b)
  (hk:∀ g cap w',ArgG lw hi base d w' (.slice (some ⟨g,0,none⟩) (xs.length+1) cap) (xs++[y]) (L++[.int .i64 k,.int .i64 o',.int .i64 a',.int .i64 l',.string t,.slice A n c])→w.grownBy w' v.ownBlock→(v.ownBlock=some g∨w.heap.size≤g)→K (a.put o.dst (.slice (some ⟨g,0,none⟩) (xs.length+1) cap)) w') :
  if Region.wanted o (yielded ops a.tmps)=true then Oper.wp Tryz.prog o a w K Q else E:=by
 obtain ⟨i,hi,hz,hsz,hby⟩:=info_parts z3Q
 have hbx:=(Array.getElem?_eq_some_iff.1 hr).1
 refine step_append_lies _ hgd s x _ ho base 39 i _ 6 72 Tryz.underlying37 hi hz hsz hby rfl (by decide) v xs.length L hs h.own ⟨bx,0,none⟩ 1 1 [.int .i64 k,.int .i64 o',.int .i64 a',.int .i64 l',.string t,.slice A n c] hx (by simp) ?_ ?_ (by decide) (by unfold maxLen; omega) (by omega) (by omega) _ rfl fun g cap w' h1 h2 h3 _=>hk g cap w' (h.push hy hF h1 (Below.refl _ w) h2 h3) h2 (h3.imp id (fun e=>Nat.le_of_eq e.symm))
 ·intro j u hu
  rw [Addr.add_lit,Nat.zero_add]
  exact (cell_of_row _ _ _ _ _ _ hr).trans (by simpa using hu)
 ·intro u hu
  simp at hu
  rcases hu with rfl | rfl | rfl | rfl | rfl | rfl <;> rfl
theorem ArgG.last {lw hi base d g cap n:Nat} {w:World} {xs:List Ex} {L:List Value} {x y:Ex} {z0 z1 z2 z3 z4 z5 c0 c1 c2 c3 c4 c5:Value} {F:Nat→Prop} (hn:xs.length=n) (hL:L.length=n * 6) (h:ArgG lw hi base d w (.slice (some ⟨g,0,none⟩) (n+1) cap) (xs++[x]) (L++[z0,z1,z2,z3,z4,z5]))
  (hy:ExV F w d y (.agg #[c0,c1,c2,c3,c4,c5])) (hF:∀ b,F b→(lw≤b∧b<hi∨base≤b)∧b<w.heap.size∧b≠g) :
  ArgG lw hi base d ((((((w.setCell ⟨g,n * 6,none⟩ c0).setCell ⟨g,n * 6+1,none⟩ c1).setCell ⟨g,n * 6+2,none⟩ c2).setCell ⟨g,n * 6+3,none⟩ c3).setCell ⟨g,n * 6+4,none⟩ c4).setCell ⟨g,n * 6+5,none⟩ c5) (.slice (some ⟨g,0,none⟩) (n+1) cap) (xs++[y]) (L++[c0,c1,c2,c3,c4,c5]) ∧
  w.grownBy ((((((w.setCell ⟨g,n * 6,none⟩ c0).setCell ⟨g,n * 6+1,none⟩ c1).setCell ⟨g,n * 6+2,none⟩ c2).setCell ⟨g,n * 6+3,none⟩ c3).setCell ⟨g,n * 6+4,none⟩ c4).setCell ⟨g,n * 6+5,none⟩ c5) (some g):=by
 have ho:w.ownsRow base 39 6 (.slice (some ⟨g,0,none⟩) (n+1) cap) (n+1) (L++[z0,z1,z2,z3,z4,z5]):=by
  have:=h.own
  rwa [List.length_append,List.length_singleton,hn] at this
 have o0:=ho.stored (n * 6) c0
 have o1:=o0.1.stored (n * 6+1) c1
 have o2:=o1.1.stored (n * 6+2) c2
 have o3:=o2.1.stored (n * 6+3) c3
 have o4:=o3.1.stored (n * 6+4) c4
 have o5:=o4.1.stored (n * 6+5) c5
 have hg:=((((o0.2.trans o1.2).trans o2.2).trans o3.2).trans o4.2).trans o5.2
 have hset:((((((L++[z0,z1,z2,z3,z4,z5]).set (n * 6) c0).set (n * 6+1) c1).set (n * 6+2) c2).set (n * 6+3) c3).set (n * 6+4) c4).set (n * 6+5) c5=L++[c0,c1,c2,c3,c4,c5]:=by
  simp [hL]
 have hown:=o5.1
 rw [hset] at hown
 refine ⟨⟨by rw [List.length_append,List.length_singleton,hn]; exact hown,fun j u hj=>?_⟩,hg⟩
 have keepX:∀ {G:Nat→Prop} {u:Ex} {v:Value},ExV G w d u v→(∀ b,G b→(lw≤b∧b<hi∨base≤b)∧b<w.heap.size∧b≠g)→ExV (fun b=>(lw≤b∧b<hi∨base≤b)∧b<((((((w.setCell ⟨g,n * 6,none⟩ c0).setCell ⟨g,n * 6+1,none⟩ c1).setCell ⟨g,n * 6+2,none⟩ c2).setCell ⟨g,n * 6+3,none⟩ c3).setCell ⟨g,n * 6+4,none⟩ c4).setCell ⟨g,n * 6+5,none⟩ c5).heap.size∧(Value.slice (some ⟨g,0,none⟩) (n+1) cap).ownBlock≠some b) _ d u v:=fun hu hG=>hu.keep (fun b hb=>⟨(hG b hb).1,Nat.lt_of_lt_of_le (hG b hb).2.1 hg.size,fun e=>(hG b hb).2.2 (by simpa [Value.ownBlock] using e.symm)⟩) (fun b hb=>hg.block b (hG b hb).2.1 (fun e=>(hG b hb).2.2 (by injection e)))
 rcases Nat.lt_or_ge j n with hlt | hge
 ·have hj2:(xs++[x])[j]?=some u:=by
   rw [List.getElem?_append_left (by omega)] at hj ⊢
   exact hj
  obtain ⟨d0,d1,d2,d3,d4,d5,e0,e1,e2,e3,e4,e5,hu⟩:=h.at_ j u hj2
  have hl:∀ q v,q<n * 6→(L++[z0,z1,z2,z3,z4,z5])[q]?=some v→(L++[c0,c1,c2,c3,c4,c5])[q]?=some v:=fun q v hq hv=>by
   rw [List.getElem?_append_left (by omega)] at hv ⊢
   exact hv
  exact ⟨d0,d1,d2,d3,d4,d5,hl _ _ (by omega) e0,hl _ _ (by omega) e1,hl _ _ (by omega) e2,hl _ _ (by omega) e3,hl _ _ (by omega) e4,hl _ _ (by omega) e5,keepX hu (fun b hb=>⟨hb.1,hb.2.1,fun e=>hb.2.2 (by simp [Value.ownBlock,e])⟩)⟩
 ·have hjn:j=n:=by
   have:=(List.getElem?_eq_some_iff.1 hj).1
   simp at this
   omega
  subst hjn
  rw [List.getElem?_append_right (by omega)] at hj
  simp [hn] at hj
  subst hj
  have hr:∀ q,(L++[c0,c1,c2,c3,c4,c5])[j * 6+q]?=[c0,c1,c2,c3,c4,c5][q]?:=fun q=>by
   rw [List.getElem?_append_right (by omega)]
   congr 1
   omega
  exact ⟨c0,c1,c2,c3,c4,c5,hr 0,hr 1,hr 2,hr 3,hr 4,hr 5,keepX hy hF⟩
end Go.Proofs.YtdplfnemedckaaaGreatDoor
namespace Go.Proofs.YtdplfnemedckaaaGreatDoor
open Go.RowKit
structure CS (w0:World) (lw p tb xv pbx xb base:Nat) (k l:Int) (nm:ByteArray) (s:PS) (xs:List Ex) (W:World):Prop where
 pa:PA W p tb s
 cv:W.cell? ⟨xv,0,none⟩=some (.pointer (some ⟨xb,0,none⟩))
 cp:W.cell? ⟨pbx,0,none⟩=some (.pointer (some ⟨p,0,none⟩))
 row:∃ A n c d L,W.heap[xb]?=some (.cells #[.int .i64 k,.int .i64 0,.int .i64 0,.int .i64 l,.string nm,.slice A n c] 39 (0,0))∧ArgG lw w0.heap.size base d W (.slice A n c) xs L
 gr:w0.grownBy W (some p)
 lo:p<lw∧lw≤w0.heap.size∧tb<w0.heap.size∧w0.heap.size≤xv∧w0.heap.size≤pbx∧w0.heap.size≤xb∧xv<base∧pbx<base∧xb<base∧base≤W.heap.size∧xv≠xb∧pbx≠xb
 few:xs.length+s.rest.length≤1000002
theorem CS.step {w0 W W2:World} {lw p tb xv pbx xb base:Nat} {k l:Int} {nm:ByteArray} {s s2:PS} {xs:List Ex} (h:CS w0 lw p tb xv pbx xb base k l nm s xs W) (hg:W.grownBy W2 (some p)) (hp:PA W2 p tb s2) (hl:s2.rest.length≤s.rest.length):CS w0 lw p tb xv pbx xb base k l nm s2 xs W2:=by
 obtain ⟨h1,hlw,h2,h3,h4,h5,h6,h7,h8,h9,h10,h11⟩:=h.lo
 obtain ⟨A,n,c,d,L,hr,ha⟩:=h.row
 exact ⟨hp,z08 hg (by omega) h.cv,z08 hg (by omega) h.cp,⟨A,n,c,d,L,z04 hg (by omega) hr,ha.grown hg (by omega) (by omega)⟩,h.gr.trans hg,⟨h1,hlw,h2,h3,h4,h5,h6,h7,h8,Nat.le_trans h9 hg.size,h10,h11⟩,by have:=h.few; omega⟩
theorem CS.below {w0 W W2:World} {lw p tb xv pbx xb base:Nat} {k l:Int} {nm:ByteArray} {s:PS} {xs:List Ex} (h:CS w0 lw p tb xv pbx xb base k l nm s xs W) (hb:Below W.heap.size W W2):CS w0 lw p tb xv pbx xb base k l nm s xs W2 :=
 h.step (z01 hb _) (h.pa.below hb) (Nat.le_refl _)
theorem CS.push {w0 W w6:World} {lw p tb xv pbx xb base g cap n c d:Nat} {k l:Int} {nm:ByteArray} {s:PS} {xs:List Ex} {y:Ex} {A:Option Addr} {L L2:List Value} (h:CS w0 lw p tb xv pbx xb base k l nm s xs W) (hx:xs.length+1+s.rest.length≤1000002)
  (hr:W.heap[xb]?=some (.cells #[.int .i64 k,.int .i64 0,.int .i64 0,.int .i64 l,.string nm,.slice A n c] 39 (0,0))) (hown:ArgG lw w0.heap.size base d W (.slice A n c) xs L) (hg:W.grownBy w6 (Value.slice A n c).ownBlock) (ha:ArgG lw w0.heap.size base d w6 (.slice (some ⟨g,0,none⟩) (xs.length+1) cap) (xs++[y]) L2) :
  CS w0 lw p tb xv pbx xb base k l nm s (xs++[y]) (w6.setCell ⟨xb,5,none⟩ (.slice (some ⟨g,0,none⟩) (xs.length+1) cap)):=by
 obtain ⟨h1,hlw,h2,h3,h4,h5,h6,h7,h8,h9,h10,h11⟩:=h.lo
 have hge:∀ b,(Value.slice A n c).ownBlock=some b→base≤b:=fun b e=>(hown.own.lt b e).1
 have hne:∀ b,b<base→some b≠(Value.slice A n c).ownBlock:=fun b hb e=>by have:=hge b e.symm; omega
 have hsz:=h.gr.size
 have hgs:w6.grownBy (w6.setCell ⟨xb,5,none⟩ (.slice (some ⟨g,0,none⟩) (xs.length+1) cap)) (some xb):=z06 w6 ⟨xb,5,none⟩ (.slice (some ⟨g,0,none⟩) (xs.length+1) cap)
 have hk:∀ b o v,b<base→b≠xb→W.cell? ⟨b,o,none⟩=some v→(w6.setCell ⟨xb,5,none⟩ (.slice (some ⟨g,0,none⟩) (xs.length+1) cap)).cell? ⟨b,o,none⟩=some v:=fun b o v hb hbx hc =>
  z08 hgs hbx ((World.cell?_of_block (hg.block b (World.block_lt_of_cell? W _ hc) (hne b hb))).trans hc)
 have hr6:=(hg.block xb (Array.getElem?_eq_some_iff.1 hr).1 (hne xb h8)).trans hr
 refine ⟨(h.pa.keep (hg.block p h.pa.lt.1 (hne p (by omega))) (hg.block tb h.pa.lt.2.1 (hne tb (by omega)))).other hgs (by omega) (by omega),hk xv 0 _ h6 h10 h.cv,hk pbx 0 _ h7 h11 h.cp,⟨_,_,_,d,L2,z0f (i:=5) _ hr6,ha.grown hgs h8 (.inr h5)⟩,?_,⟨h1,hlw,h2,h3,h4,h5,h6,h7,h8,Nat.le_trans h9 (Nat.le_trans hg.size hgs.size),h10,h11⟩,by rw [List.length_append]; simpa using hx⟩
 have hb6:Below w0.heap.size W w6:=z0b hg (fun b e=>by have:=hge b e; omega) hsz
 exact z0g (z17 h.gr hb6 (Nat.le_refl _)) hgs h5
theorem CS.after {w0 W w2:World} {lw p tb xv pbx xb base n c d b5:Nat} {k l:Int} {nm:ByteArray} {s s':PS} {xs:List Ex} {y:Ex} {A:Option Addr} {L:List Value} (h:CS w0 lw p tb xv pbx xb base k l nm s xs W)
  (hr:W.heap[xb]?=some (.cells #[.int .i64 k,.int .i64 0,.int .i64 0,.int .i64 l,.string nm,.slice A n c] 39 (0,0))) (ha:ArgG lw w0.heap.size base d W (.slice A n c) xs L) (hx:XAt W.heap.size w2 b5 y) (hp:PA w2 p tb s') (hg:W.grownBy w2 (some p)) (hl:s'.rest.length≤s.rest.length) :
  ∃ dy ky oy ay ly sy Ay ny cy,w2.heap[b5]?=some (.cells #[.int .i64 ky,.int .i64 oy,.int .i64 ay,.int .i64 ly,.string sy,.slice Ay ny cy] 39 (0,0))∧CS w0 lw p tb xv pbx xb base k l nm s' xs w2∧w2.heap[xb]?=some (.cells #[.int .i64 k,.int .i64 0,.int .i64 0,.int .i64 l,.string nm,.slice A n c] 39 (0,0))∧ArgG lw w0.heap.size base (d+dy) w2 (.slice A n c) xs L ∧
   ExV (fun b=>W.heap.size≤b∧b<w2.heap.size) w2 (d+dy) y (.agg #[.int .i64 ky,.int .i64 oy,.int .i64 ay,.int .i64 ly,.string sy,.slice Ay ny cy])∧(∀ b,(W.heap.size≤b∧b<w2.heap.size)→(lw≤b∧b<w0.heap.size∨base≤b)∧b<w2.heap.size∧(Value.slice A n c).ownBlock≠some b)∧base≤w2.heap.size:=by
 obtain ⟨h1,hlw,h2,h3,h4,h5,h6,h7,h8,h9,h10,h11⟩:=h.lo
 obtain ⟨_,dy,ky,oy,ay,ly,sy,Ay,ny,cy,rx,vx⟩:=hx
 refine ⟨dy,ky,oy,ay,ly,sy,Ay,ny,cy,rx,h.step hg hp hl,z04 hg (by omega) hr,(ha.grown hg (by omega) (by omega)).mono dy,by rw [Nat.add_comm]; exact vx.mono d,fun b hb=>⟨.inr (by omega),hb.2,fun e=>by have:=(ha.own.lt b e).2; omega⟩,Nat.le_trans h9 hg.size⟩
theorem CS.far {w0 W w6:World} {lw p tb xv pbx xb base d:Nat} {k l:Int} {nm:ByteArray} {s:PS} {xs:List Ex} {v:Value} {L:List Value} (h:CS w0 lw p tb xv pbx xb base k l nm s xs W) (ha:ArgG lw w0.heap.size base d W v xs L) (hg:W.grownBy w6 v.ownBlock):w6.cell? ⟨xv,0,none⟩=some (.pointer (some ⟨xb,0,none⟩)):=by
 have hl:=h.lo.2.2.2.2.2.2.1
 exact (World.cell?_of_block (hg.block xv (World.block_lt_of_cell? W _ h.cv) (fun e=>by have:=(ha.own.lt xv e.symm).1; omega))).trans h.cv
end Go.Proofs.YtdplfnemedckaaaGreatDoor
