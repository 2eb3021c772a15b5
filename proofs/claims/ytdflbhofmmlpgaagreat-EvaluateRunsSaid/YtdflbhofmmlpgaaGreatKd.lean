/-
  Kd: PsMath, RpMath, RpNow. Part of the proof. No condition.
-/
import Derived.Test.YtdflbhofmmlpgaaGreatKb
import Derived.RegionTactic
import Derived.ChangeAlike
import Derived.BigRegion
set_option maxRecDepth 100000
set_option maxHeartbeats 8000000
namespace Go.Proofs.YtdflbhofmmlpgaaGreat
open Go.RowKit
structure PS where
 rest:List Tok
 ref:Nat
 out:Nat
def noT:Tok:=⟨0,0,0,[]⟩
def hdT (s:PS):Tok:=s.rest.head?.getD noT
def nmB (t:z0e):Zb:=⟨t.toArray⟩
def binK (t:z0e):Int:=if t=[124,124] then 8 else if t=[38,38] then 7 else 6
def binO (t:z0e):Int:=if t=[124,124] then 0 else if t=[38,38] then 0 else if t=[60] then 8 else if t=[60,61] then 9 else if t=[61,61] then 10 else if t=[33,61] then 11 else if t=[43] then 3 else if t=[45] then 4 else if t=[42] then 5 else if t=[47] then 6 else if t=[37] then 7 else 0
def binP (t:Tok) (x y:Ex):Ex:=.mk (binK t.text) (binO t.text) 0 (t.line:Int) ⟨#[]⟩ [x,y]
abbrev P1:=PS->Option (Ex × PS)
def WFt (l:List Tok):Prop:=∃ r e,l=r++[e]/\(e.kind=0/\e.text=[])/\∀ t∈r,t.kind≠0/\t.text≠[]
theorem WFt.pos {l:List Tok} (h:WFt l):0<l.length:=by
 obtain ⟨r,e,rfl,_⟩:=h;simp
theorem WFt.two {s:PS} (h:WFt s.rest) (h2:(hdT s).text≠[]\/(hdT s).kind≠0):2<=s.rest.length:=by
 obtain ⟨r,e,hl,he,_⟩:=h;cases r with
 | nil =>
  have:hdT s=e:=by simp [hdT,hl]
  rw [this] at h2;rcases h2 with h2 | h2
  ·exact absurd he.2 h2
  ·exact absurd he.1 h2
 | cons a r=>rw [hl]; simp
theorem WFt.tail {l:List Tok} (h:WFt l) (h2:2<=l.length):WFt l.tail:=by
 obtain ⟨r,e,rfl,he,hr⟩:=h;cases r with
 | nil=>simp at h2
 | cons a r=>exact ⟨r,e,rfl,he,fun t ht=>hr t (by simp [ht])⟩
theorem zbv {l:z0e} {line:Nat} {ts:List Tok} (h:scan line l=.ok ts):WFt ts:=by
 obtain ⟨toks,e,rfl,ht⟩:=z9R l.length l line ts (q_2 _) h;refine ⟨toks,_,rfl,⟨rfl,rfl⟩,fun t hm=>⟨(ht t hm).kd,?_⟩⟩;obtain ⟨c,r,hc,_⟩:=(ht t hm).head;rw [hc];simp
def z7D (w:World) (b o:Nat) (t:Tok):Prop:=w.cell? ⟨b,o,none⟩=some (.int .i64 (t.kind:Int))/\w.cell? ⟨b,o+1,none⟩=some (.int .i64 (t.line:Int))/\w.cell? ⟨b,o+2,none⟩=some (.int .i64 (t.value:Int))/\w.cell? ⟨b,o+3,none⟩=some (.string (nmB t.text))
theorem z7D.keep {w w':World} {b o:Nat} {t:Tok} (h:z7D w b o t) (hb:w'.heap[b]?=w.heap[b]?):z7D w' b o t:=by
 have e:∀ o,w'.cell? ⟨b,o,none⟩=w.cell? ⟨b,o,none⟩:=fun o=>q_6 hb
 exact ⟨(e _).trans h.1,(e _).trans h.2.1,(e _).trans h.2.2.1,(e _).trans h.2.2.2⟩
structure RS where
 rest:List Tok
 bad:Bool
 wrong:Nat
def hdR (s:RS):Tok:=s.rest.head?.getD noT
def popR (s:RS):RS:={ s with rest:=s.rest.tail }
def badR (s:RS):RS:={ s with bad:=true }
def isR (t:z0e) (s:RS):Bool:=!s.bad&&((decide ((hdR s).kind=3)||decide ((hdR s).kind=4))&&decide ((hdR s).text=t))
def accR (t:z0e) (s:RS):RS:=if isR t s then popR s else s
def z0h (t:z0e) (s:RS):RS:=if isR t s then popR s else badR s
def z0n (k:Nat) (s:RS):Tok × RS:=if s.bad=true\/(hdR s).kind≠k then (noT,badR s) else (hdR s,popR s)
def z1K (l:List z0e) (s:RS):Bool:=l.any fun t=>isR t s
abbrev R1:=RS->Option (Ex × RS)
def z45 (sub:R1) (signs:List z0e):Nat->Ex->R1
 | 0,_,_=>none
 | n+1,x,s =>
  if z1K signs s then
   match sub (popR s) with
   | none=>none
   | some (y,s2)=>z45 sub signs n (binP (hdR s) x y) s2
  else some (x,s)
def z2N (sub:R1) (signs:List z0e):R1:=fun s =>
 match sub s with
 | none=>none
 | some (x,s1)=>z45 sub signs (s1.rest.length+1) x s1
def zcU (sub:R1) (signs:List z0e):R1:=fun s =>
 match sub s with
 | none=>none
 | some (x,s1) =>
  if z1K signs s1 then
   match sub (popR s1) with
   | none=>none
   | some (y,s2)=>some (binP (hdR s1) x y,s2)
  else some (x,s1)
def noX:Ex:=.mk 0 0 0 0 ⟨#[]⟩ []
def z2I (E:R1):R1:=fun s =>
 if s.bad then some (noX,s)
 else if (hdR s).kind=2 then some (.mk 1 0 ((hdR s).value:Int) ((hdR s).line:Int) ⟨#[]⟩ [],popR s)
 else if (hdR s).kind=1 then
  if isR [91] (popR s) then
   match E (popR (popR s)) with
   | none=>none
   | some (x,s1)=>some (.mk 4 0 0 ((hdR s).line:Int) (nmB (hdR s).text) [x],z0h [93] s1)
  else some (.mk 13 0 0 ((hdR s).line:Int) (nmB (hdR s).text) [],popR s)
 else if isR [38] s then some (.mk 11 0 0 ((hdR s).line:Int) (nmB (z0n 1 (popR s)).1.text) [],(z0n 1 (popR s)).2)
 else if isR [114,101,97,100] s then some (.mk 12 0 0 ((hdR s).line:Int) ⟨#[]⟩ [],popR s)
 else
  match E (z0h [40] s) with
  | none=>none
  | some (x,s1)=>some (x,z0h [41] s1)
def z5b (E:R1):Nat->List Ex->RS->Option (List Ex × RS)
 | 0,_,_=>none
 | n+1,xs,s =>
  if isR [44] s then
   match E (popR s) with
   | none=>none
   | some (y,s2)=>z5b E n (xs++[y]) s2
  else some (xs,z0h [41] s)
def z8o (E:R1) (s:RS):Option (List Ex × RS) :=
 if isR [41] s then some ([],popR s)
 else
  match E s with
  | none=>none
  | some (x,s1)=>z5b E (s1.rest.length+1) [x] s1
def Ex.nm:Ex->Zb | .mk _ _ _ _ s _=>s
def z7G (nameF:Bool) (line:Nat) (x:Ex) (xs:List Ex):Ex:=if x.kind=13/\nameF=true then .mk 9 0 0 (line:Int) x.nm xs else .mk 10 0 0 (line:Int) ⟨#[]⟩ (x :: xs)
def z1V (E:R1) (nameF:Bool):Nat->Ex->R1
 | 0,_,_=>none
 | n+1,x,s =>
  if isR [40] s then
   match z8o E (popR s) with
   | none=>none
   | some (xs,s1)=>z1V E nameF n (z7G nameF (hdR s).line x xs) s1
  else some (x,s)
def z3U (E:R1):R1:=fun s =>
 match z2I E s with
 | none=>none
 | some (x,s1)=>z1V E (decide ((hdR s).kind=1)) (s1.rest.length+1) x s1
def unO (t:z0e):Int:=if t=[45] then 1 else 2
def z4H (E:R1):Nat->R1
 | 0,_=>none
 | n+1,s =>
  if z1K [[45],[33]] s then
   match z4H E n (popR s) with
   | none=>none
   | some (x,s1)=>some (.mk 5 (unO (hdR s).text) 0 ((hdR s).line:Int) ⟨#[]⟩ [x],s1)
  else z3U E s
def zaa (E:R1):R1:=fun s=>z4H E (s.rest.length+1) s
def zeZ (E:R1):R1:=z2N (zaa E) [[42],[47],[37]]
def sumR (E:R1):R1:=z2N (zeZ E) [[43],[45]]
def zaE (E:R1):R1:=zcU (sumR E) [[60],[60,61],[61,61],[33,61]]
def andR (E:R1):R1:=z2N (zaE E) [[38,38]]
def z7M:Nat->R1
 | 0,_=>none
 | d+1,s=>z2N (andR (z7M d)) [[124,124]] s
structure RR (w:World) (p tb at_ c N:Nat) (s:RS):Prop where
 wf:WFt s.rest
 ne:tb≠p
 len:at_+s.rest.length=N
 cap:N<=c
 sm:N<=1000000
 row:∃ T,w.heap[p]?=some (.cells #[.slice (some ⟨tb,0,none⟩) N c,.int .i64 (at_:Int),.bool s.bad,.int .i64 (s.wrong:Int)] T (0,0))
 tok:∀ k t,s.rest[k]?=some t->z7D w tb ((at_+k) * 4) t
def RA (w:World) (p tb:Nat) (s:RS):Prop:=∃ at_ c N,RR w p tb at_ c N s
theorem RR.lt {w:World} {p tb at_ c N:Nat} {s:RS} (h:RR w p tb at_ c N s):at_<N:=by
 have:=h.wf.pos;have:=h.len;omega
theorem RR.hd {w:World} {p tb at_ c N:Nat} {s:RS} (h:RR w p tb at_ c N s):z7D w tb (at_ * 4) (hdR s):=by
 have hl:=h.wf.pos;have:=h.tok 0 (hdR s) (by
  cases hr:s.rest with
  | nil=>rw [hr] at hl; simp at hl
  | cons a r=>simp [hdR,hr])
 simpa using this
theorem RR.plt {w:World} {p tb at_ c N:Nat} {s:RS} (h:RR w p tb at_ c N s):p<w.heap.size:=by
 obtain ⟨T,hr⟩:=h.row;exact (q_0.1 hr).1
theorem RR.tlt {w:World} {p tb at_ c N:Nat} {s:RS} (h:RR w p tb at_ c N s):tb<w.heap.size:=q_k w _ h.hd.1
theorem RA.wf {w:World} {p tb:Nat} {s:RS} (h:RA w p tb s):WFt s.rest:=by
 obtain ⟨off,c,n,h⟩:=h;exact h.wf
theorem RA.lt {w:World} {p tb:Nat} {s:RS} (h:RA w p tb s):p<w.heap.size/\tb<w.heap.size/\tb≠p:=by
 obtain ⟨off,c,n,h⟩:=h;exact ⟨h.plt,h.tlt,h.ne⟩
theorem RA.sm {w:World} {p tb:Nat} {s:RS} (h:RA w p tb s):s.rest.length<=1000000:=by
 obtain ⟨off,c,n,h⟩:=h;have:=h.len;have:=h.sm;omega
theorem RR.keep {w w':World} {p tb at_ c N:Nat} {s:RS} (h:RR w p tb at_ c N s) (hp:w'.heap[p]?=w.heap[p]?) (ht:w'.heap[tb]?=w.heap[tb]?):RR w' p tb at_ c N s:=by
 obtain ⟨T,hr⟩:=h.row;exact ⟨h.wf,h.ne,h.len,h.cap,h.sm,⟨T,hp.trans hr⟩,fun k t hk=>(h.tok k t hk).keep ht⟩
theorem RA.keep {w w':World} {p tb:Nat} {s:RS} (h:RA w p tb s) (hp:w'.heap[p]?=w.heap[p]?) (ht:w'.heap[tb]?=w.heap[tb]?):RA w' p tb s:=by
 obtain ⟨a,c,n,h⟩:=h;exact ⟨a,c,n,h.keep hp ht⟩
theorem RA.low {w w':World} {p tb B:Nat} {s:RS} (h:RA w p tb s) (hb:Below B w w') (h1:p<B) (h2:tb<B):RA w' p tb s:=h.keep (hb.block _ h1) (hb.block _ h2)
theorem RA.below {w w':World} {p tb:Nat} {s:RS} (h:RA w p tb s) (hb:Below w.heap.size w w'):RA w' p tb s:=h.low hb h.lt.1 h.lt.2.1
theorem RA.alloc {w:World} {p tb:Nat} {s:RS} (h:RA w p tb s) (o:Obj):RA (w.alloc o) p tb s:=h.below ((q_i _ w).alloc (q_2 _) o)
theorem RA.drew {w:World} {p tb:Nat} {s:RS} (h:RA w p tb s):RA w.drew p tb s:=h.keep rfl rfl
theorem RA.drewN {w:World} {p tb:Nat} {s:RS} (h:RA w p tb s) (q:Nat):RA (w.drewN q) p tb s:=h.keep rfl rfl
theorem RA.other {w w':World} {p tb g:Nat} {s:RS} (h:RA w p tb s) (hg:w.grownBy w' (some g)) (h1:p≠g) (h2:tb≠g):RA w' p tb s :=
 h.keep (hg.block _ h.lt.1 (fun e=>h1 (by injection e))) (hg.block _ h.lt.2.1 (fun e=>h2 (by injection e)))
theorem RR.cells {w:World} {p tb at_ c N:Nat} {s:RS} (h:RR w p tb at_ c N s):w.cell? ⟨p,0,none⟩=some (.slice (some ⟨tb,0,none⟩) N c)/\w.cell? ⟨p,1,none⟩=some (.int .i64 (at_:Int))/\w.cell? ⟨p,2,none⟩=some (.bool s.bad)/\w.cell? ⟨p,3,none⟩=some (.int .i64 (s.wrong:Int))/\(∀ i,w.frozen? ⟨p,i,none⟩=false):=by
 obtain ⟨T,hr⟩:=h.row;exact ⟨zcr 0 hr,zcr 1 hr,zcr 2 hr,zcr 3 hr,fun i=>by simp [World.frozen?,hr]⟩
theorem z1O {t:z0e} {s:RS} (h:WFt s.rest) (hs:isR t s=true):2<=s.rest.length:=by
 refine WFt.two (s:=⟨s.rest,0,0⟩) h (.inr fun e=>?_);simp only [isR,Bool.and_eq_true,Bool.or_eq_true,decide_eq_true_eq] at hs;obtain ⟨_,h1,_⟩:=hs;have e':(hdR s).kind=0:=e;omega
theorem z56 {s:RS} (h:WFt s.rest) (hk:(hdR s).kind≠0):2<=s.rest.length:=WFt.two (s:=⟨s.rest,0,0⟩) h (.inr hk)
theorem RR.pop {w w':World} {p tb at_ c N:Nat} {s:RS} (h:RR w p tb at_ c N s) (h2:2<=s.rest.length) (hp:∃ T,w'.heap[p]?=some (.cells #[.slice (some ⟨tb,0,none⟩) N c,.int .i64 ((at_+1:Nat):Int),.bool s.bad,.int .i64 (s.wrong:Int)] T (0,0))) (ht:w'.heap[tb]?=w.heap[tb]?):RR w' p tb (at_+1) c N (popR s):=by
 have hl:=h.len;refine ⟨h.wf.tail h2,h.ne,by simp [popR]; omega,h.cap,h.sm,hp,fun k t hk=>?_⟩;have:=(h.tok (k+1) t (by simpa [popR] using hk)).keep ht;have e:at_+1+k=at_+(k+1):=by omega
 rw [e];exact this
theorem RR.setBad {w w':World} {p tb at_ c N:Nat} {s:RS} (h:RR w p tb at_ c N s) (hp:∃ T,w'.heap[p]?=some (.cells #[.slice (some ⟨tb,0,none⟩) N c,.int .i64 (at_:Int),.bool true,.int .i64 (s.wrong:Int)] T (0,0))) (ht:w'.heap[tb]?=w.heap[tb]?):RR w' p tb at_ c N (badR s) :=
 ⟨h.wf,h.ne,h.len,h.cap,h.sm,hp,fun k t hk=>(h.tok k t hk).keep ht⟩
theorem z0u (s:RS):(popR s).rest.length=s.rest.length - 1:=by simp [popR]
theorem z13 (t:z0e) (s:RS):(z0h t s).rest.length<=s.rest.length:=by
 unfold z0h;split
 ·rw [z0u]; omega
 ·exact q_2 _
theorem z5H (k:Nat) (s:RS):(z0n k s).2.rest.length<=s.rest.length:=by
 unfold z0n;split
 ·exact q_2 _
 ·rw [z0u]; omega
def z1F (t:Tok):Value:=.agg #[.int .i64 (t.kind:Int),.int .i64 (t.line:Int),.int .i64 (t.value:Int),.string (nmB t.text)]
def NowG (s:RS) (w:World) (e:Ending) (w':World):Prop:=e=.returned (z1F (hdR s))/\Below w.heap.size w w'
theorem z09 {w:World} {g:Nat} {cs:Array Value} {t:TypeId} (h:w.heap[g]?=some (.cells cs t (0,0))) (i:Nat):w.frozen? ⟨g,i,none⟩=false:=by simp [World.frozen?,h]
theorem z0m {B:Nat} {w w':World} (h:Below B w w'):Below B w w'.drew:=⟨h.os,h.tape,h.output,h.size,h.block⟩
theorem z3m {p tb:Nat} {s:RS} (w:World) (h:RA w p tb s):Calls Tryz.prog 39 #[.pointer (some ⟨p,0,none⟩)] w (NowG s w):=by
 obtain ⟨a,c,N,h⟩:=h;have hlt:=h.lt;have hcap:=h.cap;have hsm:=h.sm;have plt:=h.plt;have tlt:=h.tlt;have hb1:=(q_i _ w).alloc (q_2 _) (.cells #[.int .i64 0,.int .i64 0,.int .i64 0,.string { data:=#[] }] 110);have P1:=h.keep (hb1.block _ plt) (hb1.block _ tlt);obtain ⟨c0,c1,c2,c3,fz⟩:=P1.cells;obtain ⟨k0,k1,k2,k3⟩:=P1.hd;have hrow:=q_4 w (.cells #[.int .i64 0,.int .i64 0,.int .i64 0,.string { data:=#[] }] 110);have f0:=z09 hrow 0;have f1:=z09 hrow 1;have f2:=z09 hrow 2;have f3:=z09 hrow 3;have hrow4:=q_4 w (.cells #[.int .i64 ((hdR s).kind:Int),.int .i64 ((hdR s).line:Int),.int .i64 ((hdR s).value:Int),.string (nmB (hdR s).text)] 110);have hb4:=(q_i _ w).alloc (q_2 _) (.cells #[.int .i64 ((hdR s).kind:Int),.int .i64 ((hdR s).line:Int),.int .i64 ((hdR s).value:Int),.string (nmB (hdR s).text)] 110);obtain ⟨j0,j1,j2,j3⟩:=cl4 hrow4;have HB:=zhi hb4;clear hrow4 hb4 h P1 fz hrow hb1;go_enter Tryz.func39,Tryz.ntmps39;go_wp2_with fail;go_region;go_wp2_with fail;exact q_3 (by simp [results,Tryz.results39,go_sem,z1F,j0,j1,j2,j3]) rfl ⟨rfl,z0m HB.out⟩
def RBG (x:Bool) (w:World) (e:Ending) (w':World):Prop:=e=.returned (.bool x)/\Below w.heap.size w w'
theorem zdT (k n:Nat):((k:Int) == (n:Int))=decide (k=n):=by
 rw [Bool.eq_iff_iff];simp;omega
theorem txS (a b:z0e):((nmB a).toList == (nmB b).toList)=decide (a=b):=by
 rw [Lib.toList_data,Lib.toList_data,Bool.eq_iff_iff];simp [nmB]
theorem is_r {p tb:Nat} {s:RS} (t:z0e) (w:World) (h:RA w p tb s):Calls Tryz.prog 61 #[.pointer (some ⟨p,0,none⟩),.string (nmB t)] w (RBG (isR t s) w):=by
 have HN:=zhi (z3m w h);obtain ⟨a,c,N,hr⟩:=h;have plt:=hr.plt;have HR:=zhi hr;have hk3:(((hdR s).kind:Int) == 3)=decide ((hdR s).kind=3):=zdT _ 3;have hk4:(((hdR s).kind:Int) == 4)=decide ((hdR s).kind=4):=zdT _ 4;have ht:=txS (hdR s).text t;have HD:Hid (isR t s=(!s.bad&&((decide ((hdR s).kind=3)||decide ((hdR s).kind=4))&&decide ((hdR s).text=t)))):=zhi rfl;clear hr;go_enter Tryz.func61,Tryz.ntmps61;go_wp2_with fail;refine HN.out.mono ?_;rintro e w1 ⟨rfl,hb1⟩;unfold z1F;have c2:=(HR.out.keep ((hb1.alloc hb1.size (.cells #[.int .i64 ((hdR s).kind:Int),.int .i64 ((hdR s).line:Int),.int .i64 ((hdR s).value:Int),.string (nmB (hdR s).text)] 110)).block _ HR.out.plt) ((hb1.alloc hb1.size _).block _ HR.out.tlt)).cells.2.2.1;have HB:=zhi hb1;clear hb1 HN;have HD:=HD.out;generalize s.bad=b at c2 HD;clear HR;generalize decide ((hdR s).kind=3)=d3 at hk3 HD;generalize decide ((hdR s).kind=4)=d4 at hk4 HD;generalize decide ((hdR s).text=t)=dt at ht HD;have HD:=zhi HD;cases b with
 | true =>
  go_wp2_with fail;go_ret;exact ⟨by rw [HD.out]; simp,HB.out.alloc HB.out.size _⟩
 | false =>
  cases d3 with
  | true =>
   clear hk4;go_wp2_with fail;go_ret;exact ⟨by rw [HD.out]; simp,HB.out.alloc HB.out.size _⟩
  | false =>
   cases d4 with
   | true =>
    go_wp2_with fail;go_ret;exact ⟨by rw [HD.out]; simp,HB.out.alloc HB.out.size _⟩
   | false =>
    go_wp2_with fail;go_ret;exact ⟨by rw [HD.out]; simp,HB.out.alloc HB.out.size _⟩
def zeI (p tb:Nat) (b:Bool) (s':RS) (w:World) (e:Ending) (w':World):Prop:=e=.returned (.bool b)/\RA w' p tb s'/\w.grownBy w' (some p)
def zdG (p tb:Nat) (s':RS) (w:World) (e:Ending) (w':World):Prop:=(∃ v,e=.returned v)/\RA w' p tb s'/\w.grownBy w' (some p)
theorem RR.popSet {w:World} {p tb a c N:Nat} {s:RS} (h:RR w p tb a c N s) (h2:2<=s.rest.length):RR (w.setCell ⟨p,1,none⟩ (.int .i64 ((a:Int)+1))) p tb (a+1) c N (popR s) :=
 h.pop h2 (by
  obtain ⟨T,hr⟩:=h.row;exact ⟨T,z0a (i:=1) (.int .i64 ((a:Int)+1)) hr⟩) ((z03 w ⟨p,1,none⟩ _).block tb h.tlt (fun e=>by injection e with e; exact h.ne e))
theorem RR.badSet {w:World} {p tb a c N:Nat} {s:RS} (h:RR w p tb a c N s):RR (w.setCell ⟨p,2,none⟩ (.bool true)) p tb a c N (badR s) :=
 h.setBad (by
  obtain ⟨T,hr⟩:=h.row;exact ⟨T,z0a (i:=2) (.bool true) hr⟩) ((z03 w ⟨p,2,none⟩ _).block tb h.tlt (fun e=>by injection e with e; exact h.ne e))
theorem z1h {t:z0e} {s:RS} (h:isR t s=true):accR t s=popR s:=by simp [accR,h]
theorem z1b {t:z0e} {s:RS} (h:isR t s=false):accR t s=s:=by simp [accR,h]
theorem z0U {p tb:Nat} {s:RS} (t:z0e) (w:World) (h:RA w p tb s):Calls Tryz.prog 40 #[.pointer (some ⟨p,0,none⟩),.string (nmB t)] w (zeI p tb (isR t s) (accR t s) w):=by
 have HI:=zhi (is_r t w h);obtain ⟨a,c,N,hr⟩:=h;have plt:=hr.plt;have hsm:=hr.sm;have hlt:=hr.lt;have HR:=zhi hr;have HW:=zhi hr.wf;clear hr;go_enter Tryz.func40,Tryz.ntmps40;go_wp2_with fail;refine HI.out.mono ?_;rintro e w1 ⟨rfl,hb1⟩;have h1:=HR.out.keep (hb1.block _ HR.out.plt) (hb1.block _ HR.out.tlt);have c1:=h1.cells.2.1;have f1:=h1.cells.2.2.2.2 1;have H1:=zhi h1;have HB:=zhi hb1;clear hb1 h1 HI HR;cases hv:isR t s with
 | true =>
  have HV:=zhi hv;have HE:Hid (RA (w1.setCell ⟨p,1,none⟩ (.int .i64 ((a:Int)+1))) p tb (accR t s)):=zhi (by rw [z1h hv]; exact ⟨_,_,_,H1.out.popSet (z1O HW.out hv)⟩);have HG:=zhi ((z02 HB.out (some p)).trans (z03 w1 ⟨p,1,none⟩ (.int .i64 ((a:Int)+1))));clear hv;go_wp2_with fail;go_ret;exact ⟨by rw [HV.out]; rfl,HE.out,HG.out⟩
 | false =>
  have HV:=zhi hv;have HE:Hid (RA w1 p tb (accR t s)):=zhi (by rw [z1b hv]; exact ⟨_,_,_,H1.out⟩);clear hv;go_wp2_with fail;go_ret;exact ⟨by rw [HV.out]; rfl,HE.out,z02 HB.out _⟩
theorem z1X {p tb:Nat} {s:RS} (t:z0e) (w:World) (h:RA w p tb s):Calls Tryz.prog 42 #[.pointer (some ⟨p,0,none⟩),.string (nmB t)] w (zdG p tb (z0h t s) w):=by
 have HI:=zhi (z0U t w h);go_enter Tryz.func42,Tryz.ntmps42;clear h;go_wp2_with fail;refine HI.out.mono ?_;rintro e w1 ⟨rfl,hp1,hg1⟩;cases hv:isR t s with
 | true =>
  rw [z1h hv] at hp1;have HE:Hid (RA w1 p tb (z0h t s)):=zhi (by simpa [z0h,hv] using hp1);have HG:=zhi hg1;clear hp1 hg1 hv HI;go_wp2_with fail;refine q_3 (results_none rfl _ _ _) rfl ⟨⟨_,rfl⟩,HE.out,HG.out⟩
 | false =>
  rw [z1b hv] at hp1;obtain ⟨a,c,N,hr⟩:=hp1;have c2:=hr.cells.2.2.1;have f2:=hr.cells.2.2.2.2 2;have HE:Hid (RA (w1.setCell ⟨p,2,none⟩ (.bool true)) p tb (z0h t s)):=zhi ⟨a,c,N,by simpa [z0h,hv] using hr.badSet⟩;have HG:=zhi (hg1.trans (z03 w1 ⟨p,2,none⟩ (.bool true)));clear hr hg1 hv HI;go_wp2_with fail;refine q_3 (results_none rfl _ _ _) rfl ⟨⟨_,rfl⟩,HE.out,HG.out⟩
theorem z3P {P:Program} {w:World} {ops:Array Oper} {rest:List Oper} {d:Option Tmp} {ty:TypeId} {x y:Operand} {pos:String} {af:Array Edge} {gd:Option (Nat × Bool)} {a:Act} {Q:Exit->Act->World->Prop}
  (h:z07 (wpList P ops Q ({ dst:=d,op:=.store 110 x y,type:=ty,pos:=pos,after:=af,guard:=gd } :: rest) a w)):wpList P ops Q ({ dst:=d,op:=.store 110 x y,type:=ty,pos:=pos,after:=af,guard:=gd } :: rest) a w:=h
def zaw (p tb:Nat) (t:Tok) (s':RS) (w:World) (e:Ending) (w':World):Prop:=e=.returned (z1F t)/\RA w' p tb s'/\w.grownBy w' (some p)
theorem zbV {p tb:Nat} {s:RS} (k:Nat) (w:World) (h:RA w p tb s) (hk0:k≠0):Calls Tryz.prog 62 #[.pointer (some ⟨p,0,none⟩),.int .i64 (k:Int)] w (zaw p tb (z0n k s).1 (z0n k s).2 w):=by
 have HN:=zhi (z3m (w.alloc (.cells #[.int .i64 0,.int .i64 0,.int .i64 0,.string { data:=#[] }] 110)) (h.alloc _));obtain ⟨a,c,N,hr⟩:=h;have plt:=hr.plt;have tlt:=hr.tlt;have hsm:=hr.sm;have hlt:=hr.lt;have HR:=zhi hr;have hb0:=(q_i _ w).alloc (q_2 _) (.cells #[.int .i64 0,.int .i64 0,.int .i64 0,.string { data:=#[] }] 110);have HZ0:=zhi (q_4 w (.cells #[.int .i64 0,.int .i64 0,.int .i64 0,.string { data:=#[] }] 110));have HB0:=zhi hb0;clear hr hb0;go_enter Tryz.func62,Tryz.ntmps62;go_wp2_with fail;refine HN.out.mono ?_;rintro e w1 ⟨rfl,hb1⟩;unfold z1F;have hsz1:w.heap.size+1<=w1.heap.size:=by have:=hb1.size; simpa using this
 have HB1:=zhi (HB0.out.trans (hb1.mono (by simp)));have HZ1:=zhi ((hb1.block _ (by simp)).trans HZ0.out);clear hb1 HN;go_wp2_with (with_reducible refine z3P ?_);refine z07.of (z00 _ rfl _ _ _ rfl w1.heap.size _ rfl (by rfl) _ _ (q_4 w1 _) (by kernel_rfl) (by rfl) (by simp [Value.oneCell']) ?_);intro w2 hrow2 hg2;have hba:=(q_i _ w1).alloc (q_2 _) (.cells #[.int .i64 0,.int .i64 0,.int .i64 0,.string { data:=#[] }] 110);have hb2:Below w1.heap.size w1 w2:=hba.trans (z05 hg2 (fun k hk=>by injection hk with hk; omega) (by simp));have hbw:Below w.heap.size w w2:=HB1.out.trans (hb2.mono (by omega));have h2:=HR.out.keep (hbw.block _ plt) (hbw.block _ tlt);have hz2:=(hb2.block w.heap.size (by omega)).trans HZ1.out;obtain ⟨r0,r1,r2,r3⟩:=cl4 hrow2;have c1:=h2.cells.2.1;have c2:=h2.cells.2.2.1;have f1:=h2.cells.2.2.2.2 1;have f2:=h2.cells.2.2.2.2 2;have hsz2:=hb2.size;have H2:=zhi h2;have HBW:=zhi hbw;have HZ2:=zhi hz2;have HRow:=zhi hrow2;clear hrow2 hg2 hba hb2 hbw h2 hz2 HZ1 HZ0 HB0 HB1 HR;dsimp only [Act.put]
 by_cases hc:s.bad=true\/(hdR s).kind≠k
 ·have E1:Hid (z0n k s=(noT,badR s)):=zhi (by simp only [z0n,if_pos hc]);have hq:w2.grownBy (w2.setCell ⟨p,2,none⟩ (.bool true)) (some p):=z03 w2 ⟨p,2,none⟩ (.bool true);have HZ3:=zhi (z04 hq (by omega) HZ2.out);have HE3:=zhi (H2.out.badSet);have HG3:=zhi ((z02 HBW.out (some p)).trans hq);have hz3:w.heap.size<(w2.setCell ⟨p,2,none⟩ (.bool true)).heap.size:=by have:=hq.size; omega
  clear hq;have hnk:s.bad=false->((((hdR s).kind:Int) != (k:Int))=true):=fun hb=>by
   rcases hc with hc | hc
   ·rw [hb] at hc; cases hc
   ·simp; omega
  generalize s.bad=b at c2 hnk;clear hc;cases b with
  | true =>
   clear hnk;go_wp2_with (with_reducible refine z3P ?_);refine z07.of (z00 _ rfl _ _ _ rfl w.heap.size _ rfl (by rfl) _ _ HZ3.out (by kernel_rfl) (by rfl) (by simp [Value.oneCell']) ?_);intro w5 hrow5 hg5;obtain ⟨j0,j1,j2,j3⟩:=cl4 hrow5;have HH:Hid (zaw p tb (z0n k s).1 (z0n k s).2 w (.returned (z1F noT)) w5):=zhi (by rw [E1.out]; exact ⟨rfl,RA.other ⟨_,_,_,HE3.out⟩ hg5 (by omega) (by omega),z0r HG3.out hg5 (q_2 _)⟩);clear hrow5 hg5;go_wp2_with fail;exact q_3 (by simp [results,Tryz.results62,go_sem,z1F,noT,nmB,j0,j1,j2,j3]) rfl HH.out
  | false =>
   have hnk:=hnk rfl;go_wp2_with (with_reducible refine z3P ?_);refine z07.of (z00 _ rfl _ _ _ rfl w.heap.size _ rfl (by rfl) _ _ HZ3.out (by kernel_rfl) (by rfl) (by simp [Value.oneCell']) ?_);intro w5 hrow5 hg5;obtain ⟨j0,j1,j2,j3⟩:=cl4 hrow5;have HH:Hid (zaw p tb (z0n k s).1 (z0n k s).2 w (.returned (z1F noT)) w5):=zhi (by rw [E1.out]; exact ⟨rfl,RA.other ⟨_,_,_,HE3.out⟩ hg5 (by omega) (by omega),z0r HG3.out hg5 (q_2 _)⟩);clear hrow5 hg5;go_wp2_with fail;exact q_3 (by simp [results,Tryz.results62,go_sem,z1F,noT,nmB,j0,j1,j2,j3]) rfl HH.out
 ·have hb:s.bad=false:=by
   cases e:s.bad with
   | false=>rfl
   | true=>exact absurd (.inl e) hc
  have hk:(hdR s).kind=k:=by
   by_cases e:(hdR s).kind=k
   ·exact e
   ·exact absurd (.inr e) hc
  have E1:Hid (z0n k s=(hdR s,popR s)):=zhi (by simp only [z0n,if_neg hc]);have hq:w2.grownBy (w2.setCell ⟨p,1,none⟩ (.int .i64 ((a:Int)+1))) (some p):=z03 w2 ⟨p,1,none⟩ (.int .i64 ((a:Int)+1));have HZ3:=zhi (z04 hq (by omega) HZ2.out);have HE3:=zhi (H2.out.popSet (z56 H2.out.wf (by omega)));have HG3:=zhi ((z02 HBW.out (some p)).trans hq);have hz3:w.heap.size<(w2.setCell ⟨p,1,none⟩ (.int .i64 ((a:Int)+1))).heap.size:=by have:=hq.size; omega
  have hrow3:=z04 hq (by omega) HRow.out;obtain ⟨q0,q1,q2,q3⟩:=cl4 hrow3;have hnk:((((hdR s).kind:Int) != (k:Int))=false):=by simp [hk]
  rw [hb] at c2;clear hq hc hk hb hrow3;go_wp2_with (with_reducible refine z3P ?_);refine z07.of (z00 _ rfl _ _ _ rfl w.heap.size _ rfl (by rfl) _ _ HZ3.out (by kernel_rfl) (by rfl) (by simp [Value.oneCell']) ?_);intro w5 hrow5 hg5;obtain ⟨j0,j1,j2,j3⟩:=cl4 hrow5;have HH:Hid (zaw p tb (z0n k s).1 (z0n k s).2 w (.returned (z1F (hdR s))) w5):=zhi (by rw [E1.out]; exact ⟨rfl,RA.other ⟨_,_,_,HE3.out⟩ hg5 (by omega) (by omega),z0r HG3.out hg5 (q_2 _)⟩);clear hrow5 hg5;go_wp2_with fail;exact q_3 (by simp [results,Tryz.results62,go_sem,z1F,nmB,j0,j1,j2,j3]) rfl HH.out
end Go.Proofs.YtdflbhofmmlpgaaGreat
