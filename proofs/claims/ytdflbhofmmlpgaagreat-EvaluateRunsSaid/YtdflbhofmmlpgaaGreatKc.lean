/-
  Kc: RTokA. Part of the proof. No condition.
-/
import Derived.Test.YtdflbhofmmlpgaaGreatKb
import Derived.Deep.CutRange
import Derived.RegionTactic
import Derived.BigRegion
set_option maxRecDepth 100000
set_option maxHeartbeats 8000000
namespace Go.Proofs.YtdflbhofmmlpgaaGreat
open Go.RowKit
theorem z0w (c:UInt8) (w:World):Calls Tryz.prog 55 #[.int .u8 (c.toNat:Int)] w (RetB (letter c) w):=by
 go_enter Tryz.func55,Tryz.ntmps55;go_wp2_with fail
 all_goals (go_ret; refine retB ?_; rw [Bool.eq_iff_iff]; simp [letter]; try omega)
theorem z0L (c:UInt8) (w:World):Calls Tryz.prog 56 #[.int .u8 (c.toNat:Int)] w (RetB (digit c) w):=by
 go_enter Tryz.func56,Tryz.ntmps56;go_wp2_with fail
 all_goals (go_ret; refine retB ?_; rw [Bool.eq_iff_iff]; simp [digit]; try omega)
def SRow (w:World) (g:Nat) (xs:List Zb):Prop:=∀ i x,xs[i]?=some x->w.cell? ⟨g,i,none⟩=some (.string x)
theorem z1A {a b:Zb} (h:a.data.toList=b.data.toList):a=b:=by
 cases a; cases b;simp only [ByteArray.mk.injEq];exact Array.toList_inj.1 h
def hasB (xs:List Zb) (s:Zb):Bool:=(xs.map (·.data.toList)).contains s.data.toList
theorem z4Z {xs:List Zb} {s:Zb} {k:Nat} (h:xs[k]?=some s):hasB xs s=true:=by
 unfold hasB;rw [List.contains_iff_mem];exact List.mem_map_of_mem (q_a h)
theorem z4Y {xs:List Zb} {s:Zb} (h:∀ j,j<xs.length->xs[j]?≠some s):hasB xs s=false:=by
 cases e:hasB xs s with
 | false=>rfl
 | true =>
  unfold hasB at e;rw [List.contains_iff_mem] at e;obtain ⟨a,ha,he⟩:=List.mem_map.1 e;obtain ⟨j,hj⟩:=q_l ha;have hjn:j<xs.length:=by
   rcases q_f j xs.length with h' | h'
   ·exact h'
   ·rw [q_j h'] at hj; cases hj
  exact absurd (by rw [<- z1A he]; exact hj) (h j hjn)
theorem z9H (s:Zb) (xs:List Zb) (g n c:Nat) (w:World) (hn:xs.length=n) (_hc:n<=c) (hn2:n<=1000) (hr:SRow w g xs) :
  Calls Tryz.prog 84 #[.string s,.slice (some ⟨g,0,none⟩) n c] w (RetB (hasB xs s) w):=by
 have Hr:=zhi hr;have Hn:=zhi hn;clear hr hn;go_enter Tryz.func84,Tryz.ntmps84;go_wp2_with fail
 go_loop [5] (fun i=>∃ k:Nat,k<=n/\i=.int .i64 (k:Int)/\Hid (∀ j,j<k->xs[j]?≠some s)) (fun i=>n - (intOf i).toNat)
 case atStart=>exact ⟨0,q_h _,rfl,zhi (fun j hj=>by omega)⟩
 case round =>
  obtain ⟨k,hk,rfl,H⟩:=hrel
  by_cases hlt:k<n
  ·obtain ⟨x,hx⟩:∃ x,xs[k]?=some x:=⟨xs[k]'(by rw [Hn.out]; exact hlt),q_7 _⟩;have d0:=Hr.out k x hx;have Hx:=zhi hx;clear hx
   by_cases he:x=s
   ·subst he;have HP:Hid (hasB xs x=true):=zhi (z4Z Hx.out);clear H Hx;go_wp2_with fail;go_ret;exact retB HP.out.symm
   ·have H2:Hid (∀ j,j<k+1->xs[j]?≠some s):=zhi (fun j hj=>by
     rcases q_f j k with h | h
     ·exact H.out j h
     ·obtain rfl:j=k:=by omega
      rw [Hx.out];intro e;injection e with e;exact he e)
    have he2:(x.toList == s.toList)=false:=by
     rw [beq_eq_false_iff_ne];intro e;rw [Lib.toList_data,Lib.toList_data] at e;exact he (z1A e)
    clear H Hx;go_wp2_with fail;exact ⟨⟨k+1,by omega,by go_num,H2⟩,by simp [intOf]; omega⟩
  ·have HP:Hid (hasB xs s=false):=zhi (z4Y (fun j hj=>H.out j (by have:=Hn.out; omega)));clear H;go_wp2_with fail;go_ret;exact retB HP.out.symm
def zag:List Zb:=[⟨#[102,117,110,99]⟩,⟨#[103,108,111,98,97,108]⟩,⟨#[118,97,114]⟩,⟨#[105,102]⟩,⟨#[101,108,115,101]⟩,⟨#[119,104,105,108,101]⟩,⟨#[114,101,116,117,114,110]⟩,⟨#[112,114,105,110,116]⟩,⟨#[99,97,108,108]⟩,⟨#[114,101,97,100]⟩]
def z9U:List Zb:=[⟨#[40]⟩,⟨#[41]⟩,⟨#[123]⟩,⟨#[125]⟩,⟨#[91]⟩,⟨#[93]⟩,⟨#[44]⟩,⟨#[59]⟩,⟨#[61]⟩,⟨#[43]⟩,⟨#[45]⟩,⟨#[42]⟩,⟨#[47]⟩,⟨#[37]⟩,⟨#[60]⟩,⟨#[60,61]⟩,⟨#[61,61]⟩,⟨#[33,61]⟩,⟨#[38,38]⟩,⟨#[124,124]⟩,⟨#[33]⟩,⟨#[38]⟩]
theorem zbz (s:Zb):hasB zag s=isW s.data.toList:=rfl
theorem zbi (s:Zb):hasB z9U s=isS s.data.toList:=rfl
theorem z7u (w:World) (xs:List Zb) (t:TypeId):SRow (w.alloc (.cells (xs.map Value.string).toArray t)) w.heap.size xs:=fun i x hi=>by
 rw [zcr i (q_4 w _)];simp [hi]
theorem z4c (s:Zb) (w:World):Calls Tryz.prog 57 #[.string s] w (RetG (isW s.data.toList) w):=by
 have hc:=zhi (z9H s zag w.heap.size 10 10 _ rfl (q_2 _) (by omega) (z7u w zag 9));go_enter Tryz.func57,Tryz.ntmps57;go_wp2_with fail;refine hc.out.mono ?_;rintro e w1 ⟨rfl,rfl⟩;rw [zbz];clear hc;go_wp2_with fail;go_ret;exact ⟨rfl,(q_i _ w).alloc (q_2 _) _⟩
theorem z5V (s:Zb) (w:World):Calls Tryz.prog 60 #[.string s] w (RetG (isS s.data.toList) w):=by
 have hc:=zhi (z9H s z9U w.heap.size 22 22 _ rfl (q_2 _) (by omega) (z7u w z9U 9));go_enter Tryz.func60,Tryz.ntmps60;go_wp2_with fail;refine hc.out.mono ?_;rintro e w1 ⟨rfl,rfl⟩;rw [zbi];clear hc;go_wp2_with fail;go_ret;exact ⟨rfl,(q_i _ w).alloc (q_2 _) _⟩
def z2S (l:z0e):Bool:=match l with | []=>false | c :: r=>decide ((c :: r).length<=32)&&letter c&&!isW (c :: r)&&(c :: r).all wordy
theorem zcL {s:Zb} (h:0<s.size):s.data.toList=s[0] :: s.data.toList.drop 1:=by have:=z1u s 0 h; rwa [List.drop_zero] at this
theorem z4a {x:Bool} {w w':World} (h:x=false) (hb:Below w.heap.size w w'):RetG x w (.returned (.bool false)) w':=⟨by rw [h],hb⟩
theorem z5T (s:Zb) (w:World) (hs:s.size<=140737488355328):Calls Tryz.prog 58 #[.string s] w (RetG (z2S s.data.toList) w):=by
 have hlen:s.data.toList.length=s.size:=by simp
 by_cases h0:s.size=0
 ·have HP:Hid (z2S s.data.toList=false):=zhi (by rw [show s.data.toList=[] from q_g (by omega)]; rfl);clear hlen;go_enter Tryz.func58,Tryz.ntmps58;go_wp2_with fail;go_ret;exact z4a HP.out (q_i _ _)
 have hp:0<s.size:=by omega
 have hd:=zcL hp;have hl2:(s[0] :: s.data.toList.drop 1).length=s.size:=by rw [<- hd]; exact hlen
 by_cases h32:32<s.size
 ·have HP:Hid (z2S s.data.toList=false):=zhi (by rw [hd,z2S,hl2,decide_eq_false (by omega)]; rfl);clear hlen hd hl2;go_enter Tryz.func58,Tryz.ntmps58;go_wp2_with fail;go_ret;exact z4a HP.out (q_i _ _)
 have hz0:((s.size:Int) == 0)=false:=by rw [beq_eq_false_iff_ne]; omega
 have hz32:s.size<=32:=by omega
 by_cases h1:letter s[0]=true
 ·by_cases h2:isW s.data.toList=true
  ·have HP:Hid (z2S s.data.toList=false):=zhi (by rw [hd] at h2 ⊢; rw [z2S,h2]; simp);have H2:=zhi h2;clear hlen hd hl2 h2;go_enter Tryz.func58,Tryz.ntmps58;go_wp2_with (first | (go_at_call 55; (with_reducible refine (z0w _ _).mono ?_); rintro e w' ⟨rfl,rfl⟩) | (go_at_call 57; (with_reducible refine (z4c _ _).mono ?_); rintro e w' ⟨rfl,hb⟩; rw [H2.out]));go_ret;exact z4a HP.out hb
  ·have h2:isW s.data.toList=false:=by simpa using h2
   have HP:Hid (z2S s.data.toList=s.data.toList.all wordy):=zhi (by rw [hd] at h2 ⊢; rw [z2S,h2,h1,hl2,decide_eq_true (by omega)]; rfl);have H2:=zhi h2;clear hlen hd hl2 h2;go_enter Tryz.func58,Tryz.ntmps58;go_wp2_with (first | (go_at_call 55; (with_reducible refine (z0w _ _).mono ?_); rintro e w' ⟨rfl,rfl⟩) | (go_at_call 57; (with_reducible refine (z4c _ _).mono ?_); rintro e w1 ⟨rfl,hb⟩; have Hb:=zhi hb; clear hb; rw [H2.out]))
   go_loop [3] (fun i=>∃ k:Nat,k<=s.size/\i=.int .i64 k/\Hid (s.data.toList.all wordy=(s.data.toList.drop k).all wordy)) (fun i=>s.size - (intOf i).toNat)
   case atStart=>exact ⟨0,q_h _,rfl,zhi (by simp)⟩
   case round =>
    clear h1;obtain ⟨k,hk,rfl,H⟩:=hrel
    by_cases hlt:k<s.size
    ·have Hd:=zhi (z1u s k hlt)
     by_cases hw:wordy s[k]=true
     ·have H3:Hid (s.data.toList.all wordy=(s.data.toList.drop (k+1)).all wordy):=zhi (by rw [H.out,Hd.out,List.all_cons,hw]; rfl);clear H Hd
      by_cases h1:letter s[k]=true
      ·clear hw;go_wp2_with (first | (go_at_call 55; (with_reducible refine (z0w _ _).mono ?_); rintro e w' ⟨rfl,rfl⟩) | (go_at_call 56; (with_reducible refine (z0L _ _).mono ?_); rintro e w' ⟨rfl,rfl⟩))
       go_round
       case rel=>exact ⟨k+1,by omega,by go_num,H3⟩
       case measure=>simp [intOf]; omega
      ·have h1:letter s[k]=false:=by simpa using h1
       by_cases h2:digit s[k]=true
       ·clear hw;go_wp2_with (first | (go_at_call 55; (with_reducible refine (z0w _ _).mono ?_); rintro e w' ⟨rfl,rfl⟩) | (go_at_call 56; (with_reducible refine (z0L _ _).mono ?_); rintro e w' ⟨rfl,rfl⟩))
        go_round
        case rel=>exact ⟨k+1,by omega,by go_num,H3⟩
        case measure=>simp [intOf]; omega
       ·have h2:digit s[k]=false:=by simpa using h2
        have h3:((s[k].toNat:Int) == 95)=true:=by
         simp [wordy,h1,h2] at hw;simp; omega
        clear hw;go_wp2_with (first | (go_at_call 55; (with_reducible refine (z0w _ _).mono ?_); rintro e w' ⟨rfl,rfl⟩) | (go_at_call 56; (with_reducible refine (z0L _ _).mono ?_); rintro e w' ⟨rfl,rfl⟩))
        go_round
        case rel=>exact ⟨k+1,by omega,by go_num,H3⟩
        case measure=>simp [intOf]; omega
     ·have hw:wordy s[k]=false:=by simpa using hw
      have H3:Hid (s.data.toList.all wordy=false):=zhi (by rw [H.out,Hd.out,List.all_cons,hw]; rfl);have h1:letter s[k]=false:=by cases e:letter s[k] with | false=>rfl | true=>simp [wordy,e] at hw
      have h2:digit s[k]=false:=by cases e:digit s[k] with | false=>rfl | true=>simp [wordy,e] at hw
      have h3:((s[k].toNat:Int) == 95)=false:=by
       simp [wordy,h1,h2] at hw;simp; omega
      clear H Hd hw;go_wp2_with (first | (go_at_call 55; (with_reducible refine (z0w _ _).mono ?_); rintro e w' ⟨rfl,rfl⟩) | (go_at_call 56; (with_reducible refine (z0L _ _).mono ?_); rintro e w' ⟨rfl,rfl⟩));go_ret;exact z4a (by rw [HP.out]; exact H3.out) Hb.out
    ·have H3:Hid (s.data.toList.all wordy=true):=zhi (by rw [H.out,z2d s k (by omega)]; rfl);clear H;go_wp2_with fail;go_ret;exact ⟨by rw [HP.out,H3.out]; rfl,Hb.out⟩
 ·have h1:letter s[0]=false:=by simpa using h1
  have HP:Hid (z2S s.data.toList=false):=zhi (by rw [hd,z2S,h1]; simp);clear hlen hd hl2;go_enter Tryz.func58,Tryz.ntmps58;go_wp2_with (go_at_call 55; (with_reducible refine (z0w _ _).mono ?_); rintro e w' ⟨rfl,rfl⟩);go_ret;exact z4a HP.out (q_i _ _)
def RNum (p:Option Nat) (w:World) (e:Ending) (w':World):Prop:=e=.returned (.tuple #[.int .i64 ((p.getD 0:Nat):Int),.bool p.isSome])/\w=w'
theorem zd3 {p:Option Nat} {w:World} (h:p=none):RNum p w (.returned (.tuple #[.int .i64 0,.bool false])) w:=by subst h; exact ⟨rfl,rfl⟩
theorem zd4 {p:Option Nat} {v:Nat} {w:World} (h:p=some v):RNum p w (.returned (.tuple #[.int .i64 (v:Int),.bool true])) w:=by subst h; exact ⟨rfl,rfl⟩
theorem zb6 (s:Zb) (w:World) (hs:s.size<=140737488355328) (hd:∀ c∈s.data.toList,digit c=true) :
  Calls Tryz.prog 59 #[.string s] w (RNum (num 0 s.data.toList) w):=by
 have HD:=zhi hd;clear hd;go_enter Tryz.func59,Tryz.ntmps59;go_wp2_with fail
 go_loop [4,5] (fun n i=>∃ k v:Nat,k<=s.size/\v<=9223372036854775807/\n=.int .i64 (v:Int)/\i=.int .i64 (k:Int)/\Hid (num 0 s.data.toList=num v (s.data.toList.drop k))) (fun _ i=>s.size - (intOf i).toNat)
 case atStart=>exact ⟨0,0,q_h _,by omega,rfl,rfl,zhi (by simp)⟩
 case round =>
  obtain ⟨k,v,hk,hv,rfl,rfl,H⟩:=hrel
  by_cases hlt:k<s.size
  ·have Hd:=zhi (z1u s k hlt);have hdg:=z4S (HD.out s[k] (by
    have:s[k]∈s.data.toList.drop k:=by rw [Hd.out]; simp
    exact List.mem_of_mem_drop this))
   obtain ⟨d,hdd⟩:∃ d:Nat,d=s[k].toNat - 48:=⟨_,rfl⟩;have hd9:d<=9:=by omega
   have hwr:IntKind.u8.wrap ((s[k].toNat:Int) - 48)=(d:Int):=by simp [IntKind.wrap,IntKind.bits,IntKind.signed]; omega
   by_cases hb:(9223372036854775807 - d) / 10<v
   ·have H2:Hid (num 0 s.data.toList=none):=zhi (by rw [H.out,Hd.out,num,if_pos (by rw [<- hdd]; exact hb)]);have hbi:(9223372036854775807 - (d:Int)) / 10<(v:Int):=by omega
    clear H Hd hdd hb hdg;go_wp2_with fail
    go_ret2
    exact zd3 H2.out
   ·have H2:Hid (num 0 s.data.toList=num (10 * v+d) (s.data.toList.drop (k+1))):=zhi (by rw [H.out,Hd.out,num,if_neg (by rw [<- hdd]; exact hb),<- hdd]);have hbi:(v:Int)<=(9223372036854775807 - (d:Int)) / 10:=by omega
    have hbj:10 * v+d<=9223372036854775807:=by omega
    clear H Hd hdd hb hdg;go_wp2_with fail
    go_round
    case rel=>exact ⟨k+1,10 * v+d,by omega,hbj,by go_num,by go_num,H2⟩
    case measure=>simp [intOf]; omega
  ·have H2:Hid (num 0 s.data.toList=some v):=zhi (by rw [H.out,z2d s k (by omega)]; rfl);clear H;go_wp2_with fail
   go_ret2
   exact zd4 H2.out
def RNx (p:Option (Nat × Nat × Nat)) (R:z0e) (i line:Nat) (w:World) (e:Ending) (w':World):Prop :=
 match p with
 | some (k,v,n)=>∃ T:Zb,e=.returned (.tuple #[.agg #[.int .i64 (k:Int),.int .i64 (line:Int),.int .i64 (v:Int),.string T],.int .i64 ((i+n:Nat):Int),.bool true])/\T.data.toList=R.take n/\Below w.heap.size w w'
 | none=>∃ (a b c d:Int) (T:Zb),e=.returned (.tuple #[.agg #[.int .i64 a,.int .i64 b,.int .i64 c,.string T],.int .i64 d,.bool false])/\Below w.heap.size w w'
theorem z5U {p:Option (Nat × Nat × Nat)} {R:z0e} {i line k v n:Nat} {kz vz dz:Int} {T:Zb} {w w':World} (h:p=some (k,v,n)) (hk:kz=(k:Int)) (hv:vz=(v:Int)) (hd:dz=((i+n:Nat):Int)) (hT:T.data.toList=R.take n) (hb:Below w.heap.size w w') :
  RNx p R i line w (.returned (.tuple #[.agg #[.int .i64 kz,.int .i64 (line:Int),.int .i64 vz,.string T],.int .i64 dz,.bool true])) w':=by
 subst h hk hv hd;exact ⟨T,rfl,hT,hb⟩
theorem z9J {p:Option (Nat × Nat × Nat)} {R:z0e} {i line:Nat} {a b c d:Int} {T:Zb} {w w':World} (h:p=none) (hb:Below w.heap.size w w') :
  RNx p R i line w (.returned (.tuple #[.agg #[.int .i64 a,.int .i64 b,.int .i64 c,.string T],.int .i64 d,.bool false])) w':=by
 subst h;exact ⟨a,b,c,d,T,rfl,hb⟩
def tok0:Obj:=.cells #[.int .i64 0,.int .i64 0,.int .i64 0,.string ⟨#[]⟩] 110
theorem z36 {w:World} {b i:Nat} {cs:Array Value} {t:TypeId} (v:Value) (h:w.heap[b]?=some (.cells cs t (0,0))):(w.setCell ⟨b,i,none⟩ v).heap[b]?=some (.cells (cs.setIfInBounds i v) t (0,0)):=by
 have:=heap_setCell_same w b i _ _ v h;simpa using this
structure RNs (w:World) (k line v:Int) (T:Zb) (wc:World):Prop where
 r6:wc.heap[w.heap.size]?=some (.cells #[.int .i64 0,.int .i64 0,.int .i64 0,.string ⟨#[]⟩] 110 (0,0))
 r10:wc.heap[w.heap.size+1]?=some (.cells #[.int .i64 k,.int .i64 line,.int .i64 v,.string T] 110 (0,0))
 bl:Below w.heap.size w wc
theorem z9s (w:World):((w.alloc tok0).alloc tok0).heap[w.heap.size+1]?=some tok0:=by
 have:=q_4 (w.alloc tok0) tok0;simpa using this
theorem z5e {w w1:World} {line:Int} (hrow:w1.heap[w.heap.size+1]?=some (.cells #[.int .i64 0,.int .i64 line,.int .i64 0,.string ⟨#[]⟩] 110 (0,0))) (hg:((w.alloc tok0).alloc tok0).grownBy w1 (some (w.heap.size+1))):RNs w 0 line 0 ⟨#[]⟩ w1:=by
 have hb:=((q_i _ w).alloc (q_2 _) tok0).alloc (by simp) tok0;have h1:=((q_i _ (w.alloc tok0)).alloc (q_2 _) tok0).block w.heap.size (by simp);refine ⟨(hg.block w.heap.size (by simp; omega) (fun e=>by injection e with e; omega)).trans (h1.trans (q_4 w tok0)),hrow,hb.trans (z05 hg (fun k hk=>by injection hk with hk; omega) (by simp; omega))⟩
theorem RNs.below {w wc w':World} {k line v:Int} {T:Zb} (h:RNs w k line v T wc) (hb:Below wc.heap.size wc w'):RNs w k line v T w' :=
 ⟨(hb.block _ (q_0.1 h.r6).1).trans h.r6,(hb.block _ (q_0.1 h.r10).1).trans h.r10,h.bl.trans (hb.mono h.bl.size)⟩
theorem RNs.set {w wc:World} {k line v k' v':Int} {T T':Zb} (i:Nat) (u:Value) (h:RNs w k line v T wc) (hc:(#[Value.int .i64 k,.int .i64 line,.int .i64 v,.string T]).setIfInBounds i u=#[.int .i64 k',.int .i64 line,.int .i64 v',.string T']):RNs w k' line v' T' (wc.setCell ⟨w.heap.size+1,i,none⟩ u):=by
 have hs:=z03 wc ⟨w.heap.size+1,i,none⟩ u;refine ⟨(hs.block _ (q_0.1 h.r6).1 (fun e=>absurd (show w.heap.size=w.heap.size+1 by injection e) (by omega))).trans h.r6,by rw [z36 u h.r10,hc],h.bl.trans (z05 hs (fun k hk=>q_9 (Nat.le_succ _) (Nat.le_of_eq (show w.heap.size+1=k by injection hk))) h.bl.size)⟩
theorem z5K {w wc:World} {k line v:Int} {T:Zb} (v0 v1 v2 v3:Value) (h:RNs w k line v T wc) :
  ((((wc.setCell ⟨w.heap.size,0,none⟩ v0).setCell ⟨w.heap.size,1,none⟩ v1).setCell ⟨w.heap.size,2,none⟩ v2).setCell ⟨w.heap.size,3,none⟩ v3).heap[w.heap.size]?=some (.cells #[v0,v1,v2,v3] 110 (0,0)) /\
  Below w.heap.size w ((((wc.setCell ⟨w.heap.size,0,none⟩ v0).setCell ⟨w.heap.size,1,none⟩ v1).setCell ⟨w.heap.size,2,none⟩ v2).setCell ⟨w.heap.size,3,none⟩ v3) /\
  ((((wc.setCell ⟨w.heap.size,0,none⟩ v0).setCell ⟨w.heap.size,1,none⟩ v1).setCell ⟨w.heap.size,2,none⟩ v2).setCell ⟨w.heap.size,3,none⟩ v3).heap[w.heap.size+1]?=some (.cells #[.int .i64 k,.int .i64 line,.int .i64 v,.string T] 110 (0,0)):=by
 have hg:=(((z03 wc ⟨w.heap.size,0,none⟩ v0).trans (z03 _ ⟨w.heap.size,1,none⟩ v1)).trans (z03 _ ⟨w.heap.size,2,none⟩ v2)).trans (z03 _ ⟨w.heap.size,3,none⟩ v3);exact ⟨z36 v3 (z36 v2 (z36 v1 (z36 v0 h.r6))),h.bl.trans (z05 hg (fun k hk=>Nat.le_of_eq (by injection hk)) h.bl.size),(hg.block _ (q_0.1 h.r10).1 (fun e=>absurd (show w.heap.size+1=w.heap.size by injection e) (by omega))).trans h.r10⟩
theorem zaW {c:UInt8} {r:z0e} (h1:letter c=true) (hW:isW ((c :: r).takeWhile wordy)=false):z2S ((c :: r).takeWhile wordy)=decide (twl (c :: r)<=32):=by
 have hw:wordy c=true:=by unfold wordy; rw [h1]; rfl
 have ha:((c :: r).takeWhile wordy).all wordy=true:=List.all_eq_true.2 (fun x hx=>z4G wordy _ x hx);unfold twl;have e:(c :: r).takeWhile wordy=c :: r.takeWhile wordy:=List.takeWhile_cons_of_pos hw;rw [e] at hW ha ⊢;rw [z2S,hW,ha,h1];simp
theorem z35 {w w':World} {line k:Int} {T:Zb} (h:w'.heap[w.heap.size+1]?=some (.cells #[.int .i64 k,.int .i64 line,.int .i64 0,.string T] 110 (0,0))):w'.cell? ⟨w.heap.size+1,0,none⟩=some (.int .i64 k)/\w'.cell? ⟨w.heap.size+1,1,none⟩=some (.int .i64 line)/\w'.cell? ⟨w.heap.size+1,2,none⟩=some (.int .i64 0)/\w'.cell? ⟨w.heap.size+1,3,none⟩=some (.string T) :=
 ⟨zcr 0 h,zcr 1 h,zcr 2 h,zcr 3 h⟩
theorem z4T (s:Zb) (i k:Nat) (h:i<=k) (hk:k<=s.size):(s.extract i k).data.toList=(s.data.toList.drop i).take (k - i)/\(s.extract i k).size=k - i:=by
 constructor
 ·simp only [ByteArray.data_extract,Array.toList_extract,List.extract_eq_take_drop]
 ·simp; omega
theorem z0Q {P:Program} {w:World} {ops:Array Oper} {rest:List Oper} {d:Option Tmp} {t ty:TypeId} {x y:Operand} {pos:String} {af:Array Edge} {gd:Option (Nat × Bool)} {a:Act} {Q:Exit->Act->World->Prop}
  (h:z07 (wpList P ops Q ({ dst:=d,op:=.store t x y,type:=ty,pos:=pos,after:=af,guard:=gd } :: rest) a w)):wpList P ops Q ({ dst:=d,op:=.store t x y,type:=ty,pos:=pos,after:=af,guard:=gd } :: rest) a w:=h
theorem z16 {P:Program} {ops:Array Oper} {rest:List Oper} {o:Oper} {a:Act} (w:World) {Q:Exit->Act->World->Prop} (hgd:o.guard=none) (ty:TypeId) (x y:Operand) (ho:o.op=.store ty x y)
  (b:Nat) (cells:Array Value) (hx:a.eval x=.pointer (some ⟨b,0,none⟩)) (hy:a.eval y=.agg cells) (t:TypeId) (old:Array Value) (hg:w.heap[b]?=some (.cells old t (0,0))) (hi:(P.info? ty).map (·.size)=some cells.size)
  (hold:old.size=cells.size) (h1:cells.all (·.oneCell')=true)
  (h:∀ w',w'.heap[b]?=some (.cells cells t (0,0))->w.grownBy w' (some b)->wpList P ops Q rest (a.put o.dst undef) w'):wpList P ops Q (o :: rest) a w :=
 wpList_store_row hgd ty x y ho b cells hx hy t old hg hi hold h1 (h _ (setRow_heap w b old cells t (0,0) hg) ⟨rfl,rfl,rfl,by simp,fun i _ hne=>setRow_other w b i _ (fun e=>hne (by rw [e]))⟩)
theorem z6s (s:Zb) (i line:Nat) (w:World) (hs:s.size<=65536) (hi:i<s.size) (h1:letter s[i]=true) :
  Calls Tryz.prog 38 #[.string s,.int .i64 (i:Int),.int .i64 (line:Int)] w (RNx (rnext (s.data.toList.drop i)) (s.data.toList.drop i) i line w):=by
 have hd:=z1u s i hi;have htw:(s.data.toList.drop i).takeWhile wordy=(s.data.toList.drop i).take (twl (s.data.toList.drop i)):=(z2A wordy _).symm;have HN:Hid (rnext (s.data.toList.drop i)=if isW ((s.data.toList.drop i).take (twl (s.data.toList.drop i))) then some (3,0,twl (s.data.toList.drop i)) else if twl (s.data.toList.drop i)<=32 then some (1,0,twl (s.data.toList.drop i)) else none):=zhi (by
  rw [<- htw,hd];simp only [rnext,h1,if_true];rfl)
 have HD:Hid (s.data.toList.drop i=s[i] :: s.data.toList.drop (i+1)):=zhi hd;have H1:Hid (letter s[i]=true):=zhi h1;clear hd htw;go_enter Tryz.func38,Tryz.ntmps38;go_wp2_with (with_reducible refine z0Q ?_);refine z07.of (z16 _ rfl _ _ _ rfl (w.heap.size+1) _ (by simp [Act.eval]) (by rfl) _ _ (z9s w) (by kernel_rfl) (by rfl) (by simp [Value.oneCell']) ?_);intro w1 hrow1 hg1;have Hns:=zhi (z5e hrow1 hg1);clear hrow1 hg1;dsimp only [Act.put];go_wp2_with (go_at_call 55; (with_reducible refine (z0w _ _).mono ?_); rintro e w' ⟨rfl,rfl⟩)
 go_loop [9] (fun kv=>∃ k:Nat,i<=k/\k<=s.size/\kv=.int .i64 (k:Int)/\Hid (twl (s.data.toList.drop i)=(k - i)+twl (s.data.toList.drop k))) (fun kv=>s.size - (intOf kv).toNat)
 case atStart=>exact ⟨i,q_2 _,by omega,rfl,zhi (by simp)⟩
 case round =>
  obtain ⟨k,hik,hk,rfl,H⟩:=hrel;clear h1
  by_cases hw:∃ h:k<s.size,wordy s[k]=true
  ·obtain ⟨hlt,hw⟩:=hw;have H2:Hid (twl (s.data.toList.drop i)=(k+1 - i)+twl (s.data.toList.drop (k+1))):=zhi (by rw [H.out,z1u s k hlt,zbs hw]; omega);clear H
   by_cases h1:letter s[k]=true
   ·clear hw;go_wp2_with (first | (go_at_call 55; (with_reducible refine (z0w _ _).mono ?_); rintro e w' ⟨rfl,rfl⟩) | (go_at_call 56; (with_reducible refine (z0L _ _).mono ?_); rintro e w' ⟨rfl,rfl⟩))
    go_round
    case rel=>exact ⟨k+1,by omega,by omega,by go_num,H2⟩
    case measure=>simp [intOf]; omega
   ·have h1:letter s[k]=false:=by simpa using h1
    by_cases h2:digit s[k]=true
    ·clear hw;go_wp2_with (first | (go_at_call 55; (with_reducible refine (z0w _ _).mono ?_); rintro e w' ⟨rfl,rfl⟩) | (go_at_call 56; (with_reducible refine (z0L _ _).mono ?_); rintro e w' ⟨rfl,rfl⟩))
     go_round
     case rel=>exact ⟨k+1,by omega,by omega,by go_num,H2⟩
     case measure=>simp [intOf]; omega
    ·have h2:digit s[k]=false:=by simpa using h2
     have h3:((s[k].toNat:Int) == 95)=true:=by
      simp [wordy,h1,h2] at hw;simp; omega
     clear hw;go_wp2_with (first | (go_at_call 55; (with_reducible refine (z0w _ _).mono ?_); rintro e w' ⟨rfl,rfl⟩) | (go_at_call 56; (with_reducible refine (z0L _ _).mono ?_); rintro e w' ⟨rfl,rfl⟩))
     go_round
     case rel=>exact ⟨k+1,by omega,by omega,by go_num,H2⟩
     case measure=>simp [intOf]; omega
  ·have hw2:∀ h:k<s.size,wordy s[k]=false:=fun h=>by
    cases e:wordy s[k] with
    | false=>rfl
    | true=>exact absurd ⟨h,e⟩ hw
   have HK:Hid (twl (s.data.toList.drop i)=k - i):=zhi (by
    rw [H.out];rcases q_f k s.size with h | h
    ·rw [z1u s k h,zbt (hw2 h)]; rfl
    ·rw [z2d s k h]; rfl)
   have hmid:=z4T s i k hik hk;have HT:Hid ((s.extract i k).data.toList=(s.data.toList.drop i).take (twl (s.data.toList.drop i))):=zhi (by rw [HK.out]; exact hmid.1);have hTs:(s.extract i k).size<=65536:=by rw [hmid.2]; omega
   have hTn:(s.extract i k).size=k - i:=hmid.2;have HTn:=zhi hTn;have hex:∀ h:k<s.size,letter s[k]=false/\digit s[k]=false/\((s[k].toNat:Int) == 95)=false:=fun h=>by
    have hw:=hw2 h;have h1:letter s[k]=false:=by cases e:letter s[k] with | false=>rfl | true=>simp [wordy,e] at hw
    have h2:digit s[k]=false:=by cases e:digit s[k] with | false=>rfl | true=>simp [wordy,e] at hw
    refine ⟨h1,h2,?_⟩;simp [wordy,h1,h2] at hw;simp; omega
   have Hex:=zhi hex;clear hw hw2 H hmid hTn hex;have e0:=zcr 0 Hns.out.r10;have e3:=zcr 3 Hns.out.r10;have f0:=z06 Hns.out.r10 0;have f3:=z06 Hns.out.r10 3;have hcase:(∃ h:k<s.size,letter s[k]=false/\digit s[k]=false/\((s[k].toNat:Int) == 95)=false)\/s.size<=k:=by
    rcases q_f k s.size with h | h
    ·exact .inl ⟨h,Hex.out h⟩
    ·exact .inr h
   clear Hex;rcases hcase with ⟨hlt,x1,x2,x3⟩ | hlt
   all_goals
    go_upto_region 6 with (first | (go_at_call 55; (with_reducible refine (z0w _ _).mono ?_); rintro e w' ⟨rfl,rfl⟩) | (go_at_call 56; (with_reducible refine (z0L _ _).mono ?_); rintro e w' ⟨rfl,rfl⟩))
    try clear x1 x2 x3
    go_upto_region 7 with fail;have hns2:RNs w 1 line 0 (s.extract i k) ((w1.setCell ⟨w.heap.size+1,3,none⟩ (.string (s.extract i k))).setCell ⟨w.heap.size+1,0,none⟩ (.int .i64 1)):=RNs.set 0 _ (RNs.set (k':=0) (v':=0) (T':=s.extract i k) 3 _ Hns.out (by simp)) (by simp);have Hns2:=zhi hns2;clear hns2 e0 e3 f0 f3;generalize (w1.setCell ⟨w.heap.size+1,3,none⟩ (.string (s.extract i k))).setCell ⟨w.heap.size+1,0,none⟩ (.int .i64 1)=w2 at *;generalize s.extract i k=T at *;have g3:=zcr 3 Hns2.out.r10;have hWd:=zhi (z4c T w2);go_wp2_with fail;refine hWd.out.mono ?_;rintro e w3 ⟨rfl,hb3⟩;have Hns3:=zhi (Hns2.out.below hb3);clear hWd hb3 g3 Hns2
    by_cases hW:isW T.data.toList=true
    ·have HP:Hid (rnext (s.data.toList.drop i)=some (3,0,twl (s.data.toList.drop i))):=zhi (by rw [HN.out,<- HT.out,if_pos hW]);rw [hW];have e0:=zcr 0 Hns3.out.r10;have f0:=z06 Hns3.out.r10 0;clear hW;go_upto_region 9 with fail;have hns4:RNs w 3 line 0 T (w3.setCell ⟨w.heap.size+1,0,none⟩ (.int .i64 3)):=RNs.set 0 _ Hns3.out (by simp);have Hns4:=zhi hns4;clear hns4 e0 f0;generalize w3.setCell ⟨w.heap.size+1,0,none⟩ (.int .i64 3)=w4 at *;obtain ⟨k0,k1,k2,k3⟩:=cl4 Hns4.out.r10;obtain ⟨z0,z1,z2,z3⟩:=cl4 Hns4.out.r6;have y0:=z06 Hns4.out.r6 0;have y1:=z06 Hns4.out.r6 1;have y2:=z06 Hns4.out.r6 2;have y3:=z06 Hns4.out.r6 3;go_region
     all_goals
      have hE:=z5K (.int .i64 3) (.int .i64 (line:Int)) (.int .i64 0) (.string T) Hns4.out;have hE1:=hE.1;have hE2:=hE.2.1;clear hE;generalize (((w4.setCell ⟨w.heap.size,0,none⟩ (.int .i64 3)).setCell ⟨w.heap.size,1,none⟩ (.int .i64 (line:Int))).setCell ⟨w.heap.size,2,none⟩ (.int .i64 0)).setCell ⟨w.heap.size,3,none⟩ (.string T)=w8 at *;have hr9:w8.drew.heap[w.heap.size]?=some (.cells #[.int .i64 3,.int .i64 (line:Int),.int .i64 0,.string T] 110 (0,0)):=hE1;obtain ⟨j0,j1,j2,j3⟩:=cl4 hr9;have HH:Hid (RNx (rnext (s.data.toList.drop i)) (s.data.toList.drop i) i line w (.returned (.tuple #[.agg #[.int .i64 3,.int .i64 (line:Int),.int .i64 0,.string T],.int .i64 (k:Int),.bool true])) w8.drew):=zhi (z5U HP.out rfl rfl (by have:=HK.out; omega) HT.out hE2.drew);clear hE1 hE2 hr9;dsimp only [Exit.then,Exit.inBlock];go_wp2_with fail;refine q_3 ?_ rfl HH.out;simp [results,Tryz.results38,go_sem,j0,j1,j2,j3]
    ·have hW:isW T.data.toList=false:=by simpa using hW
     have hTW:T.data.toList=(s.data.toList.drop i).takeWhile wordy:=by rw [HT.out]; exact z2A wordy _
     have hnm:z2S T.data.toList=decide (twl (s.data.toList.drop i)<=32):=by
      rw [hTW] at hW ⊢;rw [HD.out] at hW ⊢;exact zaW H1.out hW
     rw [hW];have hS0:w3.drew.cell? ⟨w.heap.size+1,0,none⟩=some (.int .i64 1)/\w3.drew.cell? ⟨w.heap.size+1,1,none⟩=some (.int .i64 (line:Int))/\w3.drew.cell? ⟨w.heap.size+1,2,none⟩=some (.int .i64 0)/\w3.drew.cell? ⟨w.heap.size+1,3,none⟩=some (.string T):=z35 Hns3.out.r10
     by_cases h32:twl (s.data.toList.drop i)<=32
     ·have HP:Hid (rnext (s.data.toList.drop i)=some (1,0,twl (s.data.toList.drop i))):=zhi (by rw [HN.out,<- HT.out,if_neg (by rw [hW]; decide),if_pos h32]);have HM:Hid (z2S T.data.toList=true):=zhi (by rw [hnm]; exact decide_eq_true h32);clear hW hTW hnm h32;go_upto_region 9 with fail
      go_region_held3 (fun w'=>w'.cell? ⟨w.heap.size+1,0,none⟩=some (.int .i64 1)/\w'.cell? ⟨w.heap.size+1,1,none⟩=some (.int .i64 (line:Int))/\w'.cell? ⟨w.heap.size+1,2,none⟩=some (.int .i64 0)/\w'.cell? ⟨w.heap.size+1,3,none⟩=some (.string T))
       (first | (with_reducible exact hS0) | (with_reducible exact hS5) | (with_reducible exact hS9))
       (first | (go_at_call 58; (with_reducible refine (z5T T _ (by omega)).mono ?_); rintro e w5 ⟨rfl,hb5⟩; rw [HM.out]; have hns5:RNs w 1 line 0 T w5:=(Hns3.out.below ((q_i _ w3).drew)).below hb5; have Hns5:=zhi hns5; have hS5:=z35 hns5.r10; have hS9:=z35 (z5K (.int .i64 1) (.int .i64 (line:Int)) (.int .i64 0) (.string T) hns5).2.2; have z0:=zcr 0 hns5.r6; have z1:=zcr 1 hns5.r6; have z2:=zcr 2 hns5.r6; have z3:=zcr 3 hns5.r6; have y0:=z06 hns5.r6 0; have y1:=z06 hns5.r6 1; have y2:=z06 hns5.r6 2; have y3:=z06 hns5.r6 3; clear hns5 hb5))
      all_goals
       have hE:=z5K (.int .i64 1) (.int .i64 (line:Int)) (.int .i64 0) (.string T) Hns5.out;have hE1:=hE.1;have hE2:=hE.2.1;clear hE;generalize (((w5.setCell ⟨w.heap.size,0,none⟩ (.int .i64 1)).setCell ⟨w.heap.size,1,none⟩ (.int .i64 (line:Int))).setCell ⟨w.heap.size,2,none⟩ (.int .i64 0)).setCell ⟨w.heap.size,3,none⟩ (.string T)=w8 at *;have hr9:w8.heap[w.heap.size]?=some (.cells #[.int .i64 1,.int .i64 (line:Int),.int .i64 0,.string T] 110 (0,0)):=hE1;obtain ⟨j0,j1,j2,j3⟩:=cl4 hr9;have HH:Hid (RNx (rnext (s.data.toList.drop i)) (s.data.toList.drop i) i line w (.returned (.tuple #[.agg #[.int .i64 1,.int .i64 (line:Int),.int .i64 0,.string T],.int .i64 (k:Int),.bool true])) w8):=zhi (z5U HP.out rfl rfl (by have:=HK.out; omega) HT.out hE2);clear hE1 hE2 hr9;dsimp only [Exit.then,Exit.inBlock];go_wp2_with fail;refine q_3 ?_ rfl HH.out;simp [results,Tryz.results38,go_sem,j0,j1,j2,j3]
     ·have HP:Hid (rnext (s.data.toList.drop i)=none):=zhi (by rw [HN.out,<- HT.out,if_neg (by rw [hW]; decide),if_neg h32]);have HM:Hid (z2S T.data.toList=false):=zhi (by rw [hnm]; exact decide_eq_false h32);clear hW hTW hnm h32;go_upto_region 9 with fail
      go_region_held3 (fun w'=>w'.cell? ⟨w.heap.size+1,0,none⟩=some (.int .i64 1)/\w'.cell? ⟨w.heap.size+1,1,none⟩=some (.int .i64 (line:Int))/\w'.cell? ⟨w.heap.size+1,2,none⟩=some (.int .i64 0)/\w'.cell? ⟨w.heap.size+1,3,none⟩=some (.string T))
       (first | (with_reducible exact hS0) | (with_reducible exact hS5) | (with_reducible exact hS9))
       (first | (go_at_call 58; (with_reducible refine (z5T T _ (by omega)).mono ?_); rintro e w5 ⟨rfl,hb5⟩; rw [HM.out]; have hns5:RNs w 1 line 0 T w5:=(Hns3.out.below ((q_i _ w3).drew)).below hb5; have Hns5:=zhi hns5; have hS5:=z35 hns5.r10; have hS9:=z35 (z5K (.int .i64 1) (.int .i64 (line:Int)) (.int .i64 0) (.string T) hns5).2.2; have z0:=zcr 0 hns5.r6; have z1:=zcr 1 hns5.r6; have z2:=zcr 2 hns5.r6; have z3:=zcr 3 hns5.r6; have y0:=z06 hns5.r6 0; have y1:=z06 hns5.r6 1; have y2:=z06 hns5.r6 2; have y3:=z06 hns5.r6 3; clear hns5 hb5))
      all_goals
       have hE:=z5K (.int .i64 1) (.int .i64 (line:Int)) (.int .i64 0) (.string T) Hns5.out;have hE1:=hE.1;have hE2:=hE.2.1;clear hE;generalize (((w5.setCell ⟨w.heap.size,0,none⟩ (.int .i64 1)).setCell ⟨w.heap.size,1,none⟩ (.int .i64 (line:Int))).setCell ⟨w.heap.size,2,none⟩ (.int .i64 0)).setCell ⟨w.heap.size,3,none⟩ (.string T)=w8 at *;have hr9:w8.heap[w.heap.size]?=some (.cells #[.int .i64 1,.int .i64 (line:Int),.int .i64 0,.string T] 110 (0,0)):=hE1;obtain ⟨j0,j1,j2,j3⟩:=cl4 hr9;have HH:Hid (RNx (rnext (s.data.toList.drop i)) (s.data.toList.drop i) i line w (.returned (.tuple #[.agg #[.int .i64 1,.int .i64 (line:Int),.int .i64 0,.string T],.int .i64 (k:Int),.bool false])) w8):=zhi (z9J HP.out hE2);clear hE1 hE2 hr9;dsimp only [Exit.then,Exit.inBlock];go_wp2_with fail;refine q_3 ?_ rfl HH.out;simp [results,Tryz.results38,go_sem,j0,j1,j2,j3]
def tdl (l:z0e):Nat:=(l.takeWhile digit).length
theorem zbp {c:UInt8} {r:z0e} (h:digit c=true):tdl (c :: r)=1+tdl r:=by simp [tdl,h,Nat.add_comm]
theorem zbq {c:UInt8} {r:z0e} (h:digit c=false):tdl (c :: r)=0:=by simp [tdl,h]
def badN (R:z0e) (c:UInt8):Bool:=(match R.drop (tdl R) with | []=>false | x :: _=>letter x||decide (x.toNat=95))||(decide (c.toNat=48)&&decide (1<tdl R))
theorem z6E {c:UInt8} {r:z0e} (h1:letter c=false) (h2:digit c=true):rnext (c :: r)=match num 0 ((c :: r).take (tdl (c :: r))) with | none=>none | some v=>if badN (c :: r) c then none else some (2,v,tdl (c :: r)):=by
 have e:(c :: r).take (tdl (c :: r))=(c :: r).takeWhile digit:=z2A digit _;rw [e];simp only [rnext,h1,h2,if_true,badN,tdl];rfl
theorem z7T (s:Zb) (i line:Nat) (w:World) (hs:s.size<=65536) (hi:i<s.size) (h1:letter s[i]=false) (h2:digit s[i]=true) :
  Calls Tryz.prog 38 #[.string s,.int .i64 (i:Int),.int .i64 (line:Int)] w (RNx (rnext (s.data.toList.drop i)) (s.data.toList.drop i) i line w):=by
 have hd:=z1u s i hi;have HN:Hid (rnext (s.data.toList.drop i)=match num 0 ((s.data.toList.drop i).take (tdl (s.data.toList.drop i))) with | none=>none | some v=>if badN (s.data.toList.drop i) s[i] then none else some (2,v,tdl (s.data.toList.drop i))):=zhi (by
  rw [hd];exact z6E h1 h2)
 clear hd;go_enter Tryz.func38,Tryz.ntmps38;go_wp2_with (with_reducible refine z0Q ?_);refine z07.of (z16 _ rfl _ _ _ rfl (w.heap.size+1) _ (by simp [Act.eval]) (by rfl) _ _ (z9s w) (by kernel_rfl) (by rfl) (by simp [Value.oneCell']) ?_);intro w1 hrow1 hg1;have Hns:=zhi (z5e hrow1 hg1);clear hrow1 hg1;dsimp only [Act.put];go_wp2_with (first | (go_at_call 55; (with_reducible refine (z0w _ _).mono ?_); rintro e w' ⟨rfl,rfl⟩) | (go_at_call 56; (with_reducible refine (z0L _ _).mono ?_); rintro e w' ⟨rfl,rfl⟩))
 go_loop [9] (fun kv=>∃ k:Nat,i<=k/\k<=s.size/\kv=.int .i64 (k:Int)/\Hid (tdl (s.data.toList.drop i)=(k - i)+tdl (s.data.toList.drop k))) (fun kv=>s.size - (intOf kv).toNat)
 case atStart=>exact ⟨i,q_2 _,by omega,rfl,zhi (by simp)⟩
 case round =>
  obtain ⟨k,hik,hk,rfl,H⟩:=hrel;clear h1 h2
  by_cases hw:∃ h:k<s.size,digit s[k]=true
  ·obtain ⟨hlt,hw⟩:=hw;have H2:Hid (tdl (s.data.toList.drop i)=(k+1 - i)+tdl (s.data.toList.drop (k+1))):=zhi (by rw [H.out,z1u s k hlt,zbp hw]; omega);clear H;go_wp2_with (go_at_call 56; (with_reducible refine (z0L _ _).mono ?_); rintro e w' ⟨rfl,rfl⟩)
   go_round
   case rel=>exact ⟨k+1,by omega,by omega,by go_num,H2⟩
   case measure=>simp [intOf]; omega
  ·have hw2:∀ h:k<s.size,digit s[k]=false:=fun h=>by
    cases e:digit s[k] with
    | false=>rfl
    | true=>exact absurd ⟨h,e⟩ hw
   have HK:Hid (tdl (s.data.toList.drop i)=k - i):=zhi (by
    rw [H.out];rcases q_f k s.size with h | h
    ·rw [z1u s k h,zbq (hw2 h)]; rfl
    ·rw [z2d s k h]; rfl)
   have hmid:=z4T s i k hik hk;have HT:Hid ((s.extract i k).data.toList=(s.data.toList.drop i).take (tdl (s.data.toList.drop i))):=zhi (by rw [HK.out]; exact hmid.1);have hTs:(s.extract i k).size<=65536:=by rw [hmid.2]; omega
   have HTd:Hid (∀ c∈(s.extract i k).data.toList,digit c=true):=zhi (fun c hc=>by
    rw [HT.out] at hc;have e:(s.data.toList.drop i).take (tdl (s.data.toList.drop i))=(s.data.toList.drop i).takeWhile digit:=z2A digit _;rw [e] at hc;exact z4G digit _ c hc)
   have HB:Hid (badN (s.data.toList.drop i) s[i]=((match s.data.toList.drop k with | []=>false | x :: _=>letter x||decide (x.toNat=95))||(decide (s[i].toNat=48)&&decide (1<k - i)))):=zhi (by
    unfold badN;rw [HK.out,List.drop_drop,show i+(k - i)=k by omega])
   have hcase:(∃ h:k<s.size,digit s[k]=false/\letter s[k]=true/\badN (s.data.toList.drop i) s[i]=true) \/
     (∃ h:k<s.size,digit s[k]=false/\letter s[k]=false/\((s[k].toNat:Int) == 95)=true/\badN (s.data.toList.drop i) s[i]=true) \/
     (∃ h:k<s.size,digit s[k]=false/\letter s[k]=false/\((s[k].toNat:Int) == 95)=false/\badN (s.data.toList.drop i) s[i]=(decide (s[i].toNat=48)&&decide (1<k - i))) \/
     (s.size<=k/\badN (s.data.toList.drop i) s[i]=(decide (s[i].toNat=48)&&decide (1<k - i))):=by
    rcases q_f k s.size with h | h
    ·rw [HB.out,z1u s k h];cases h1:letter s[k] with
     | true=>exact .inl ⟨h,hw2 h,h1,by simp [h1]⟩
     | false =>
      by_cases h2:s[k].toNat=95
      ·exact .inr (.inl ⟨h,hw2 h,h1,by simp; omega,by simp [h2]⟩)
      ·exact .inr (.inr (.inl ⟨h,hw2 h,h1,by simp; omega,by simp [h1,h2]⟩))
    ·rw [HB.out,z2d s k h];exact .inr (.inr (.inr ⟨h,by simp⟩))
   have hcase2:(((s[i].toNat:Int) == 48)=true/\i+1<k/\(decide (s[i].toNat=48)&&decide (1<k - i))=true)\/(((s[i].toNat:Int) == 48)=true/\k<=i+1/\(decide (s[i].toNat=48)&&decide (1<k - i))=false)\/(((s[i].toNat:Int) == 48)=false/\(decide (s[i].toNat=48)&&decide (1<k - i))=false):=by
    by_cases h:s[i].toNat=48
    ·by_cases h2:i+1<k
     ·exact .inl ⟨by simp; omega,h2,by simp; omega⟩
     ·exact .inr (.inl ⟨by simp; omega,by omega,by simp; omega⟩)
    ·exact .inr (.inr ⟨by simp; omega,by simp [h]⟩)
   have HC2:=zhi hcase2;clear hw hw2 H hmid HB hcase2;have e0:=zcr 0 Hns.out.r10;have e3:=zcr 3 Hns.out.r10;have f0:=z06 Hns.out.r10 0;have f3:=z06 Hns.out.r10 3;have HTD:Hid (Calls Tryz.prog 59 #[.string (s.extract i k)] ((w1.setCell ⟨w.heap.size+1,3,none⟩ (.string (s.extract i k))).setCell ⟨w.heap.size+1,0,none⟩ (.int .i64 2)) (RNum (num 0 (s.extract i k).data.toList) ((w1.setCell ⟨w.heap.size+1,3,none⟩ (.string (s.extract i k))).setCell ⟨w.heap.size+1,0,none⟩ (.int .i64 2)))):=zhi (zb6 _ _ (by omega) HTd.out);clear HTd;rcases hcase with ⟨hlt,x0,x1,hbad⟩ | ⟨hlt,x0,x1,x2,hbad⟩ | ⟨hlt,x0,x1,x2,hbad⟩ | ⟨hlt,hbad⟩
   all_goals
    have HBad:=zhi hbad;clear hbad;go_upto_region 14 with (go_at_call 56; (with_reducible refine (z0L _ _).mono ?_); rintro e w' ⟨rfl,rfl⟩);have hns2:RNs w 2 line 0 (s.extract i k) ((w1.setCell ⟨w.heap.size+1,3,none⟩ (.string (s.extract i k))).setCell ⟨w.heap.size+1,0,none⟩ (.int .i64 2)):=RNs.set 0 _ (RNs.set (k':=0) (v':=0) (T':=s.extract i k) 3 _ Hns.out (by simp)) (by simp);have Hns2:=zhi hns2;clear hns2 e0 e3 f0 f3;generalize (w1.setCell ⟨w.heap.size+1,3,none⟩ (.string (s.extract i k))).setCell ⟨w.heap.size+1,0,none⟩ (.int .i64 2)=w2 at *;generalize s.extract i k=T at *;obtain ⟨vz,hvz⟩:∃ vz,(num 0 T.data.toList).getD 0=vz:=⟨_,rfl⟩;obtain ⟨ok,hok⟩:∃ ok,(num 0 T.data.toList).isSome=ok:=⟨_,rfl⟩;have HE:Hid (∀ e w',RNum (num 0 T.data.toList) w2 e w'->e=.returned (.tuple #[.int .i64 (vz:Int),.bool ok])/\w2=w'):=zhi (fun e w' h=>by rw [<- hvz,<- hok]; exact h);have Hp:Hid (num 0 ((s.data.toList.drop i).take (tdl (s.data.toList.drop i)))=if ok=true then some vz else none):=zhi (by
     rw [<- HT.out];cases hq:num 0 T.data.toList with
     | none=>rw [hq] at hok; rw [<- hok]; rfl
     | some v=>rw [hq] at hok hvz; rw [<- hok,<- hvz]; rfl)
    have g3:=zcr 3 Hns2.out.r10;have g2:=zcr 2 Hns2.out.r10;have q2:=z06 Hns2.out.r10 2;clear hvz hok;go_wp2_with fail;refine HTD.out.mono ?_;intro e w3 hnum;obtain ⟨rfl,rfl⟩:=HE.out e w3 hnum;clear HTD HE hnum;go_upto_region 16 with fail;have hns4:RNs w 2 line vz T (w2.setCell ⟨w.heap.size+1,2,none⟩ (.int .i64 (vz:Int))):=RNs.set 2 _ Hns2.out (by simp);have Hns4:=zhi hns4;clear hns4 g2 g3 q2;generalize w2.setCell ⟨w.heap.size+1,2,none⟩ (.int .i64 (vz:Int))=w4 at *;rcases HC2.out with ⟨y1,y2,hb2⟩ | ⟨y1,y2,hb2⟩ | ⟨y1,hb2⟩
    all_goals
     have HB2:=zhi hb2;clear hb2;obtain ⟨k0,k1,k2,k3⟩:=cl4 Hns4.out.r10;go_upto_region 18 with (go_at_call 55; (with_reducible refine (z0w _ _).mono ?_); rintro e w' ⟨rfl,rfl⟩);go_wp2_with (with_reducible refine z0Q ?_);refine z07.of (z16 _ rfl _ _ _ rfl w.heap.size _ (by simp [Act.eval]) (by rfl) _ _ Hns4.out.r6 (by kernel_rfl) (by rfl) (by simp [Value.oneCell']) ?_);intro w9 hrow9 hg9;have hb9:Below w.heap.size w w9:=Hns4.out.bl.trans (z05 hg9 (fun k hk=>Nat.le_of_eq (by injection hk)) Hns4.out.bl.size);obtain ⟨j0,j1,j2,j3⟩:=cl4 hrow9;have Hb9:=zhi hb9;clear hrow9 hg9 hb9 k0 k1 k2 k3;have HH:Hid (∀ b,(b=true->badN (s.data.toList.drop i) s[i]=false/\ok=true)->(b=false->badN (s.data.toList.drop i) s[i]=true\/ok=false)->RNx (rnext (s.data.toList.drop i)) (s.data.toList.drop i) i line w (.returned (.tuple #[.agg #[.int .i64 2,.int .i64 (line:Int),.int .i64 (vz:Int),.string T],.int .i64 (k:Int),.bool b])) w9):=zhi (fun b h1 h2=>by
      cases b with
      | true =>
       obtain ⟨hb,hok⟩:=h1 rfl;exact z5U (by rw [HN.out,Hp.out,if_pos hok]; simp [hb]) rfl rfl (by have:=HK.out; omega) HT.out Hb9.out
      | false =>
       refine z9J ?_ Hb9.out;rw [HN.out,Hp.out];rcases h2 rfl with hb | hok
       ·cases ok <;> simp [hb]
       ·rw [hok]; rfl)
     go_wp2_with fail
     first
      | exact q_3 (by simp [results,Tryz.results38,go_sem,j0,j1,j2,j3]) rfl (HH.out false (fun h=>by cases h) (fun _=>.inl (by first | exact HBad.out | (rw [HBad.out]; exact HB2.out))))
      | exact q_3 (by simp [results,Tryz.results38,go_sem,j0,j1,j2,j3]) rfl (HH.out ok (fun h=>⟨by rw [HBad.out]; exact HB2.out,h⟩) (fun h=>.inr h))
def sg2 (R:z0e):Bool:=decide (2<=R.length)&&isS (R.take 2)
theorem z80 {c:UInt8} {r:z0e} (h1:letter c=false) (h2:digit c=false):rnext (c :: r)=if sg2 (c :: r) then some (4,0,2) else if isS ((c :: r).take 1) then some (4,0,1) else none:=by
 simp only [rnext,h1,h2,sg2];rfl
theorem z9n (s:Zb) (i line:Nat) (w:World) (hs:s.size<=65536) (hi:i<s.size) (h1:letter s[i]=false) (h2:digit s[i]=false) :
  Calls Tryz.prog 38 #[.string s,.int .i64 (i:Int),.int .i64 (line:Int)] w (RNx (rnext (s.data.toList.drop i)) (s.data.toList.drop i) i line w):=by
 have hd:=z1u s i hi;have HN:Hid (rnext (s.data.toList.drop i)=if sg2 (s.data.toList.drop i) then some (4,0,2) else if isS ((s.data.toList.drop i).take 1) then some (4,0,1) else none):=zhi (by
  rw [hd];exact z80 h1 h2)
 have hRl:(s.data.toList.drop i).length=s.size - i:=by simp
 have HRl:=zhi hRl;clear hd hRl;go_enter Tryz.func38,Tryz.ntmps38;go_wp2_with (with_reducible refine z0Q ?_);refine z07.of (z16 _ rfl _ _ _ rfl (w.heap.size+1) _ (by simp [Act.eval]) (by rfl) _ _ (z9s w) (by kernel_rfl) (by rfl) (by simp [Value.oneCell']) ?_);intro w1 hrow1 hg1;have Hns:=zhi (z5e hrow1 hg1);clear hrow1 hg1;dsimp only [Act.put];go_wp2_with (first | (go_at_call 55; (with_reducible refine (z0w _ _).mono ?_); rintro e w' ⟨rfl,rfl⟩) | (go_at_call 56; (with_reducible refine (z0L _ _).mono ?_); rintro e w' ⟨rfl,rfl⟩))
 go_loopw [13] (fun v wr=>∃ n:Nat,v=.int .i64 (n:Int)/\n<=2/\RNs w 0 line 0 ⟨#[]⟩ wr/\(n<2->sg2 (s.data.toList.drop i)=false)/\(n<1->isS ((s.data.toList.drop i).take 1)=false)) (fun v _=>(intOf v).toNat)
 case atStart=>exact ⟨2,rfl,q_2 _,Hns.out,fun h=>by omega,fun h=>by omega⟩
 case round =>
  clear h1 h2;obtain ⟨n,rfl,hn,hns,hs2,hs1⟩:=hrel;have Hns1:=zhi hns;have Hs2:=zhi hs2;have Hs1:=zhi hs1;clear hns hs2 hs1 Hns;have hcase:n=0\/n=1\/n=2:=by omega
  rcases hcase with rfl | rfl | rfl
  ·have HP:Hid (rnext (s.data.toList.drop i)=none):=zhi (by rw [HN.out,if_neg (by rw [Hs2.out (by omega)]; decide),if_neg (by rw [Hs1.out (by omega)]; decide)]);go_wp2_with (with_reducible refine z0Q ?_);refine z07.of (z16 _ rfl _ _ _ rfl w.heap.size _ (by simp [Act.eval]) (by rfl) _ _ Hns1.out.r6 (by kernel_rfl) (by rfl) (by simp [Value.oneCell']) ?_);intro w9 hrow9 hg9;have hb9:Below w.heap.size w w9:=Hns1.out.bl.trans (z05 hg9 (fun k hk=>Nat.le_of_eq (by injection hk)) Hns1.out.bl.size);obtain ⟨j0,j1,j2,j3⟩:=cl4 hrow9;have HH:Hid (RNx (rnext (s.data.toList.drop i)) (s.data.toList.drop i) i line w (.returned (.tuple #[.agg #[.int .i64 0,.int .i64 0,.int .i64 0,.string ⟨#[]⟩],.int .i64 0,.bool false])) w9):=zhi (z9J HP.out hb9);clear hrow9 hg9 hb9;go_wp2_with fail;exact q_3 (by simp [results,Tryz.results38,go_sem,j0,j1,j2,j3]) rfl HH.out
  ·have hm:=z4T s i (i+1) (by omega) (by omega);have HT:Hid ((s.extract i (i+1)).data.toList=(s.data.toList.drop i).take 1):=zhi (by rw [hm.1]; congr 1; omega);have hTs:(s.extract i (i+1)).size<=65536:=by rw [hm.2]; omega
   have hsg:=zhi (z5V (s.extract i (i+1)) wr);clear hm;go_wp2_with fail;refine hsg.out.mono ?_;rintro e w3 ⟨rfl,hb3⟩;have Hns3:=zhi (Hns1.out.below hb3);clear hsg hb3
   by_cases hS:isS (s.extract i (i+1)).data.toList=true
   ·have HP:Hid (rnext (s.data.toList.drop i)=some (4,0,1)):=zhi (by rw [HN.out,if_neg (by rw [Hs2.out (by omega)]; decide),if_pos (by rw [<- HT.out]; exact hS)]);have e0:=zcr 0 Hns3.out.r10;have e3:=zcr 3 Hns3.out.r10;have f0:=z06 Hns3.out.r10 0;have f3:=z06 Hns3.out.r10 3;rw [hS];clear hS;go_upto_region 24 with fail;have hns4:RNs w 4 line 0 (s.extract i (i+1)) ((w3.setCell ⟨w.heap.size+1,3,none⟩ (.string (s.extract i (i+1)))).setCell ⟨w.heap.size+1,0,none⟩ (.int .i64 4)):=RNs.set 0 _ (RNs.set (k':=0) (v':=0) (T':=s.extract i (i+1)) 3 _ Hns3.out (by simp)) (by simp);have Hns4:=zhi hns4;clear hns4 e0 e3 f0 f3;generalize (w3.setCell ⟨w.heap.size+1,3,none⟩ (.string (s.extract i (i+1)))).setCell ⟨w.heap.size+1,0,none⟩ (.int .i64 4)=w4 at *;generalize s.extract i (i+1)=T at *;obtain ⟨k0,k1,k2,k3⟩:=cl4 Hns4.out.r10;go_wp2_with (with_reducible refine z0Q ?_);refine z07.of (z16 _ rfl _ _ _ rfl w.heap.size _ (by simp [Act.eval]) (by rfl) _ _ Hns4.out.r6 (by kernel_rfl) (by rfl) (by simp [Value.oneCell']) ?_);intro w9 hrow9 hg9;have hb9:Below w.heap.size w w9:=Hns4.out.bl.trans (z05 hg9 (fun k hk=>Nat.le_of_eq (by injection hk)) Hns4.out.bl.size);obtain ⟨j0,j1,j2,j3⟩:=cl4 hrow9;have HH:Hid (RNx (rnext (s.data.toList.drop i)) (s.data.toList.drop i) i line w (.returned (.tuple #[.agg #[.int .i64 4,.int .i64 (line:Int),.int .i64 0,.string T],.int .i64 ((i:Int)+1),.bool true])) w9):=zhi (z5U HP.out rfl rfl (by omega) HT.out hb9);clear hrow9 hg9 hb9 k0 k1 k2 k3;go_wp2_with fail;exact q_3 (by simp [results,Tryz.results38,go_sem,j0,j1,j2,j3]) rfl HH.out
   ·have hS:isS (s.extract i (i+1)).data.toList=false:=by simpa using hS
    have HR:Hid (isS ((s.data.toList.drop i).take 1)=false):=zhi (by rw [<- HT.out]; exact hS);rw [hS];clear hS;go_wp2_with fail;exact ⟨⟨0,by go_num,by omega,Hns3.out,fun _=>Hs2.out (by omega),fun _=>HR.out⟩,by simp [intOf]⟩
  ·by_cases hlt:i+2<=s.size
   ·have hm:=z4T s i (i+2) (by omega) hlt;have HT:Hid ((s.extract i (i+2)).data.toList=(s.data.toList.drop i).take 2):=zhi (by rw [hm.1]; congr 1; omega);have hTs:(s.extract i (i+2)).size<=65536:=by rw [hm.2]; omega
    have HG:Hid (sg2 (s.data.toList.drop i)=isS (s.extract i (i+2)).data.toList):=zhi (by unfold sg2; rw [HT.out,HRl.out,decide_eq_true (by omega),Bool.true_and]);have hsg:=zhi (z5V (s.extract i (i+2)) wr);clear hm;go_wp2_with fail;refine hsg.out.mono ?_;rintro e w3 ⟨rfl,hb3⟩;have Hns3:=zhi (Hns1.out.below hb3);clear hsg hb3
    by_cases hS:isS (s.extract i (i+2)).data.toList=true
    ·have HP:Hid (rnext (s.data.toList.drop i)=some (4,0,2)):=zhi (by rw [HN.out,if_pos (by rw [HG.out]; exact hS)]);have e0:=zcr 0 Hns3.out.r10;have e3:=zcr 3 Hns3.out.r10;have f0:=z06 Hns3.out.r10 0;have f3:=z06 Hns3.out.r10 3;rw [hS];clear hS;go_upto_region 24 with fail;have hns4:RNs w 4 line 0 (s.extract i (i+2)) ((w3.setCell ⟨w.heap.size+1,3,none⟩ (.string (s.extract i (i+2)))).setCell ⟨w.heap.size+1,0,none⟩ (.int .i64 4)):=RNs.set 0 _ (RNs.set (k':=0) (v':=0) (T':=s.extract i (i+2)) 3 _ Hns3.out (by simp)) (by simp);have Hns4:=zhi hns4;clear hns4 e0 e3 f0 f3;generalize (w3.setCell ⟨w.heap.size+1,3,none⟩ (.string (s.extract i (i+2)))).setCell ⟨w.heap.size+1,0,none⟩ (.int .i64 4)=w4 at *;generalize s.extract i (i+2)=T at *;obtain ⟨k0,k1,k2,k3⟩:=cl4 Hns4.out.r10;go_wp2_with (with_reducible refine z0Q ?_);refine z07.of (z16 _ rfl _ _ _ rfl w.heap.size _ (by simp [Act.eval]) (by rfl) _ _ Hns4.out.r6 (by kernel_rfl) (by rfl) (by simp [Value.oneCell']) ?_);intro w9 hrow9 hg9;have hb9:Below w.heap.size w w9:=Hns4.out.bl.trans (z05 hg9 (fun k hk=>Nat.le_of_eq (by injection hk)) Hns4.out.bl.size);obtain ⟨j0,j1,j2,j3⟩:=cl4 hrow9;have HH:Hid (RNx (rnext (s.data.toList.drop i)) (s.data.toList.drop i) i line w (.returned (.tuple #[.agg #[.int .i64 4,.int .i64 (line:Int),.int .i64 0,.string T],.int .i64 ((i:Int)+2),.bool true])) w9):=zhi (z5U HP.out rfl rfl (by omega) HT.out hb9);clear hrow9 hg9 hb9 k0 k1 k2 k3;go_wp2_with fail;exact q_3 (by simp [results,Tryz.results38,go_sem,j0,j1,j2,j3]) rfl HH.out
    ·have hS:isS (s.extract i (i+2)).data.toList=false:=by simpa using hS
     have HR:Hid (sg2 (s.data.toList.drop i)=false):=zhi (by rw [HG.out]; exact hS);rw [hS];clear hS;go_wp2_with fail;exact ⟨⟨1,by go_num,by omega,Hns3.out,fun _=>HR.out,fun h=>by omega⟩,by simp [intOf]⟩
   ·have HR:Hid (sg2 (s.data.toList.drop i)=false):=zhi (by unfold sg2; rw [HRl.out,decide_eq_false (by omega),Bool.false_and]);go_wp2_with fail;exact ⟨⟨1,by go_num,by omega,Hns1.out,fun _=>HR.out,fun h=>by omega⟩,by simp [intOf]⟩
theorem z9I (s:Zb) (i line:Nat) (w:World) (hs:s.size<=65536) (hi:i<s.size) :
  Calls Tryz.prog 38 #[.string s,.int .i64 (i:Int),.int .i64 (line:Int)] w (RNx (rnext (s.data.toList.drop i)) (s.data.toList.drop i) i line w):=by
 cases h1:letter s[i] with
 | true=>exact z6s s i line w hs hi h1
 | false =>
  cases h2:digit s[i] with
  | true=>exact z7T s i line w hs hi h1 h2
  | false=>exact z9n s i line w hs hi h1 h2
theorem zd9 {c:UInt8} {r:z0e} {line:Nat} (h10:c.toNat≠10) (h32:¬(c.toNat=32\/c.toNat=9)) (h35:c.toNat≠35) :
  (rnext (c :: r)=none->scan line (c :: r)=.error line)/\(∀ k v n,rnext (c :: r)=some (k,v,n)->scan line (c :: r)=ext [⟨k,line,v,(c :: r).take n⟩] (scan line ((c :: r).drop n))/\1<=n/\n<=(c :: r).length):=by
 constructor
 ·intro h;rw [scan,if_neg h10,if_neg h32,if_neg h35,h]
 ·intro k v n h;have hn:1<=n/\n<=(c :: r).length:=by
   rw [z5c] at h;obtain ⟨p,hp,he⟩:=q_c.1 h;simp only [Prod.mk.injEq] at he;rw [<- he.2.2];exact ⟨z7j hp,z9E _⟩
  refine ⟨?_,hn⟩;rw [scan,if_neg h10,if_neg h32,if_neg h35,h];obtain ⟨m,rfl⟩:∃ m,n=m+1:=⟨n - 1,by omega⟩;simp only [Nat.add_sub_cancel,List.drop_succ_cons];cases scan line (r.drop m) <;> rfl
theorem z5N {w w':World} {base n size:Nat} {T:TypeId} {v:Value} {xs:List Value} (h:w.ownsRow base T size v n xs) (hk:∀ b,v.ownBlock=some b->w'.heap[b]?=w.heap[b]?):w'.ownsRow base T size v n xs:=by
 rcases h.2 with hn | ⟨g',cap,cur,e,hb',hh,rest⟩
 ·exact ⟨h.1,.inl hn⟩
 ·exact ⟨h.1,.inr ⟨g',cap,cur,e,hb',(hk g' (by rw [e]; rfl)).trans hh,rest⟩⟩
theorem z2c {a b c:World} (h:Below a.heap.size a b) (k:Below b.heap.size b c):Below a.heap.size a c:=h.trans (k.mono h.size)
def ne10 (x:UInt8):Bool:=decide (x.toNat≠10)
def RScR (w0:World) (s:Zb) (lv ln iv:Value) (wr:World):Prop :=
 ∃ (k line:Nat) (ts:List Tok),k<=s.size/\ts.length<=k/\line<=k+1/\ln=.int .i64 (line:Int)/\iv=.int .i64 (k:Int)/\scan 1 s.data.toList=ext ts (scan line (s.data.toList.drop k)) /\
  wr.ownsRow w0.heap.size 110 4 lv ts.length (tks ts)/\Below w0.heap.size w0 wr
theorem z81 (s:Zb) (w:World) (hs:65536<s.size) (hs2:s.size<=140737488355328):Calls Tryz.prog 22 #[.string s] w (z4M (z3a s.data.toList) w):=by
 have HP:Hid (z3a s.data.toList=.error (0,5)):=zhi (by
  have hl:s.data.toList.length=s.size:=by simp
  rw [z3a,if_pos (by omega)])
 go_enter Tryz.func22,Tryz.ntmps22;go_wp2_with fail
 go_ret3
 rw [HP.out];exact ⟨rfl,q_i _ w⟩
theorem z6G (s:Zb) (w:World) (hs:s.size<=65536):Calls Tryz.prog 22 #[.string s] w (z4M (z3a s.data.toList) w):=by
 have HP:Hid (z3a s.data.toList=match scan 1 s.data.toList with | .error n=>.error (n,6) | .ok ts=>.ok ts):=zhi (by
  have hl:s.data.toList.length=s.size:=by simp
  rw [z3a,if_neg (by omega)];cases scan 1 s.data.toList <;> rfl)
 go_enter Tryz.func22,Tryz.ntmps22;go_wp2_with fail
 go_loopw [2,5,6] (fun lv ln iv wr=>RScR w s lv ln iv wr) (fun _ _ iv _=>s.size - (intOf iv).toNat)
 case atStart=>exact ⟨0,1,[],q_h _,q_2 _,by omega,rfl,rfl,by rw [z3k,List.drop_zero],World.ownsRow_nil _ _ _ _,q_i _ _⟩
 case round =>
  obtain ⟨k,line,ts,hk,htk,hlk,rfl,rfl,hsc,hown,hb⟩:=hrel;have Hsc:=zhi hsc;have Hown:=zhi hown;have Hb:=zhi hb;have hsz:=hb.size;clear hsc hown hb
  by_cases hlt:k<s.size
  ·have Hd:=zhi (z1u s k hlt)
   by_cases c10:s[k].toNat=10
   ·have h10:((s[k].toNat:Int) == 10)=true:=by simp; omega
    have HS:Hid (scan 1 s.data.toList=ext ts (scan (line+1) (s.data.toList.drop (k+1)))):=zhi (by rw [Hsc.out,Hd.out,scan,if_pos c10]);clear c10;go_wp2_with fail;exact ⟨⟨k+1,line+1,ts,by omega,by omega,by omega,by go_num,by go_num,HS.out,Hown.out,Hb.out⟩,by simp [intOf]; omega⟩
   ·have h10:((s[k].toNat:Int) == 10)=false:=by simp; omega
    by_cases c32:s[k].toNat=32\/s[k].toNat=9
    ·have HS:Hid (scan 1 s.data.toList=ext ts (scan line (s.data.toList.drop (k+1)))):=zhi (by rw [Hsc.out,Hd.out,scan,if_neg c10,if_pos c32]);have hcase:((s[k].toNat:Int) == 32)=true\/(((s[k].toNat:Int) == 32)=false/\((s[k].toNat:Int) == 9)=true):=by
      rcases c32 with h | h
      ·exact .inl (by simp; omega)
      ·exact .inr ⟨by simp; omega,by simp; omega⟩
     clear c10 c32;rcases hcase with h32 | ⟨h32,h9⟩
     ·go_wp2_with fail;exact ⟨⟨k+1,line,ts,by omega,by omega,by omega,rfl,by go_num,HS.out,Hown.out,Hb.out⟩,by simp [intOf]; omega⟩
     ·go_wp2_with fail;exact ⟨⟨k+1,line,ts,by omega,by omega,by omega,rfl,by go_num,HS.out,Hown.out,Hb.out⟩,by simp [intOf]; omega⟩
    ·have h32:((s[k].toNat:Int) == 32)=false:=by simp; omega
     have h9:((s[k].toNat:Int) == 9)=false:=by simp; omega
     by_cases c35:s[k].toNat=35
     ·have h35:((s[k].toNat:Int) == 35)=true:=by simp; omega
      have HC:Hid (scan line (s.data.toList.drop k)=scan line ((s.data.toList.drop k).dropWhile ne10)):=zhi (by
       rw [Hd.out,scan,if_neg c10,if_neg c32,if_pos c35,List.dropWhile_cons_of_pos (by simp [ne10,c10])];rfl)
      have H10:=zhi c10;clear c10 c32 c35;go_wp2_with fail
      go_loop [6] (fun iv=>∃ k2:Nat,k<=k2/\k2<=s.size/\iv=.int .i64 (k2:Int)/\Hid (scan line (s.data.toList.drop k)=scan line ((s.data.toList.drop k2).dropWhile ne10))) (fun iv=>s.size - (intOf iv).toNat)
      case atStart=>exact ⟨k,q_2 _,by omega,rfl,HC⟩
      case round =>
       clear HC h10 h32 h9 h35;obtain ⟨k2,hkk,hk2,rfl,HC⟩:=hrel
       by_cases hlt2:k2<s.size
       ·have Hd2:=zhi (z1u s k2 hlt2)
        by_cases c10:s[k2].toNat=10
        ·have g10:((s[k2].toNat:Int) == 10)=true:=by simp; omega
         have hne:k≠k2:=by
          intro e;subst e;exact H10.out c10
         have HS:Hid (scan 1 s.data.toList=ext ts (scan line (s.data.toList.drop k2))):=zhi (by
          rw [Hsc.out,HC.out,Hd2.out,List.dropWhile_cons_of_neg (by simp [ne10,c10])])
         clear c10 HC;go_wp2_with fail;exact ⟨⟨k2,line,ts,by omega,by omega,by omega,rfl,rfl,HS.out,Hown.out,Hb.out⟩,by simp [intOf]; omega⟩
        ·have g10:((s[k2].toNat:Int) == 10)=false:=by simp; omega
         have HC2:Hid (scan line (s.data.toList.drop k)=scan line ((s.data.toList.drop (k2+1)).dropWhile ne10)):=zhi (by
          rw [HC.out,Hd2.out,List.dropWhile_cons_of_pos (by simp [ne10,c10])])
         clear c10 HC;go_wp2_with fail
         go_round
         case rel=>exact ⟨k2+1,by omega,by omega,by go_num,HC2⟩
         case measure=>simp [intOf]; omega
       ·have HS:Hid (scan 1 s.data.toList=ext ts (scan line (s.data.toList.drop k2))):=zhi (by
         rw [Hsc.out,HC.out,z2d s k2 (by omega)]; rfl)
        clear HC;go_wp2_with fail;exact ⟨⟨k2,line,ts,by omega,by omega,by omega,rfl,rfl,HS.out,Hown.out,Hb.out⟩,by simp [intOf]; omega⟩
     ·have h35:((s[k].toNat:Int) == 35)=false:=by simp; omega
      have hrn:=zd9 (c:=s[k]) (r:=s.data.toList.drop (k+1)) (line:=line) c10 c32 c35;rw [<- Hd.out] at hrn;have Hrn:=zhi hrn;have hnx:=zhi (z9I s k line wr hs hlt);clear hrn c10 c32 c35;go_wp2_with fail;refine hnx.out.mono ?_;intro e w3 hp;rcases hq:rnext (s.data.toList.drop k) with _ | ⟨kd,v,n⟩
      ·rw [hq] at hp;obtain ⟨a,b,c,d,T,rfl,hb3⟩:=hp;have HE:Hid (z3a s.data.toList=.error (line,6)):=zhi (by rw [HP.out,Hsc.out,Hrn.out.1 hq]; rfl);have hbA:=(q_i _ w3).alloc (q_2 _) tok0;have Hb3:=zhi (z2c Hb.out hb3);clear hnx hb3 hq;go_wp2_with (with_reducible refine z0Q ?_);refine z07.of (z16 _ rfl _ _ _ rfl w3.heap.size _ (by simp [Act.eval]) (by rfl) _ _ (q_4 w3 tok0) (by kernel_rfl) (by rfl) (by simp [Value.oneCell']) ?_);intro w4 _ hg4;have Hb4:=zhi (z2c Hb3.out (hbA.trans (z05 hg4 (fun k hk=>Nat.le_of_eq (by injection hk)) hbA.size)));clear hg4 hbA;go_wp2_with fail
       go_ret3
       rw [HE.out];exact ⟨rfl,Hb4.out⟩
      ·rw [hq] at hp;obtain ⟨T,rfl,hT,hb3⟩:=hp;obtain ⟨hsn,hn1,hn2⟩:=Hrn.out.2 kd v n hq;have hnl:n<=s.size - k:=by simpa using hn2
       have HS:Hid (scan 1 s.data.toList=ext (ts++[⟨kd,line,v,T.data.toList⟩]) (scan line (s.data.toList.drop (k+n)))):=zhi (by
        rw [Hsc.out,hsn,z3W,List.drop_drop,hT])
       have hbA:=(q_i _ w3).alloc (q_2 _) tok0;have Hb3:=zhi (z2c Hb.out hb3);have Hown3:=zhi (z5N Hown.out (fun b hb=>hb3.block b (Hown.out.lt b hb).2));have hsz3:=hb3.size;clear hnx hb3 hq hT hsn hn2;go_wp2_with (with_reducible refine z0Q ?_);refine z07.of (z16 _ rfl _ _ _ rfl w3.heap.size _ (by simp [Act.eval]) (by rfl) _ _ (q_4 w3 tok0) (by kernel_rfl) (by rfl) (by simp [Value.oneCell']) ?_);intro w4 hrow4 hg4;have hbB:=hbA.trans (z05 hg4 (fun k hk=>Nat.le_of_eq (by injection hk)) hbA.size);have Hb4:=zhi (z2c Hb3.out hbB);have Hown4:=zhi (z5N Hown3.out (fun b hb=>hbB.block b (Hown3.out.lt b hb).2));have hsz4:=hbB.size;obtain ⟨c0,c1,c2,c3⟩:=cl4 hrow4;clear hrow4 hg4 hbA hbB Hown3 Hb3;go_wp2_with (at_builtin; refine z07.out ?_);refine z07.of (z2a w4 rfl (.tmp 28) (.tmp 30) rfl w.heap.size _ ts ⟨kd,line,v,T.data.toList⟩ _ _ _ _ (by simp [tkc]) rfl rfl Hown4.out (by omega) (by omega) ?_);intro v' w5 hown5 hg5;have Hown5:=zhi hown5;have Hb5:=zhi (Hb4.out.trans (z05 hg5 (fun b hb=>(Hown4.out.lt b hb).1) (by omega)));clear hown5 hg5 c0 c1 c2 c3;go_wp2_with fail;exact ⟨⟨k+n,line,ts++[⟨kd,line,v,T.data.toList⟩],by omega,by simp; omega,by omega,rfl,rfl,HS.out,Hown5.out,Hb5.out⟩,by simp [intOf]; omega⟩
  ·have HE:Hid (z3a s.data.toList=.ok (ts++[⟨0,line,0,[]⟩])):=zhi (by
    rw [HP.out,Hsc.out,z2d s k (by omega),scan]; rfl)
   go_wp2_with (at_builtin; refine z07.out ?_);refine z07.of (z2a wr rfl (.tmp 72) (.tmp 75) rfl w.heap.size _ ts ⟨0,line,0,[]⟩ _ _ _ _ rfl rfl rfl Hown.out (by omega) hsz ?_);intro v' w5 hown5 hg5;have Hown5:=zhi hown5;have Hb5:=zhi (Hb.out.trans (z05 hg5 (fun b hb=>(Hown.out.lt b hb).1) hsz));clear hown5 hg5;go_wp2_with fail
   go_ret3
   rw [HE.out];exact ⟨v',rfl,Hown5.out,Hb5.out⟩
theorem z9O (s:Zb) (w:World) (hs:s.size<=140737488355328):Calls Tryz.prog 22 #[.string s] w (z4M (z3a s.data.toList) w):=by
 by_cases h:s.size<=65536
 ·exact z6G s w h
 ·exact z81 s w (by omega) hs
end Go.Proofs.YtdflbhofmmlpgaaGreat
