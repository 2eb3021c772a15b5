/-
  Ma: EvOp, EvRun, Zm, Zn, Ya. Part of the proof. No condition.
-/
import Derived.Test.YtdflbhofmmlpgaaGreatLd
import Derived.Maps.Views
set_option maxRecDepth 100000
set_option maxHeartbeats 8000000
namespace Go.Proofs.YtdflbhofmmlpgaaGreat
open Go.RowKit
def bitZ (b:Bool):Int:=if b then 1 else 0
def apP (op a b:Int):Int × Bool :=
 if op=3 then (wrap64 (a+b),true)
 else if op=4 then (wrap64 (a - b),true)
 else if op=5 then (wrap64 (a * b),true)
 else if op=8 then (bitZ (decide (a<b)),true)
 else if op=9 then (bitZ (decide (a<=b)),true)
 else if op=10 then (bitZ (a == b),true)
 else if op=11 then (bitZ (a != b),true)
 else if b=0 then (0,false)
 else if op=6 then (wrap64 (a.tdiv b),true)
 else if op=7 then (a.tmod b,true)
 else (0,false)
def unP (op a:Int):Int:=if op=1 then wrap64 (-a) else if op=2 then bitZ (a == 0) else 0
def IntS (z:Int) (w:World) (e:Ending) (w':World):Prop:=e=.returned (.int .i64 z)/\w'=w
theorem z5r (b:Bool) (w:World):Calls Tryz.prog 100 #[.bool b] w (IntS (bitZ b) w):=by
 cases b with
 | true =>
  go_enter Tryz.func100,Tryz.ntmps100;go_wp2_with fail;go_ret;exact ⟨rfl,rfl⟩
 | false =>
  go_enter Tryz.func100,Tryz.ntmps100;go_wp2_with fail;go_ret;exact ⟨rfl,rfl⟩
theorem z7E (b:Bool) (w:World):Calls Tryz.prog 107 #[.bool b] w (IntS (bitZ b) w):=by
 cases b with
 | true =>
  go_enter Tryz.func107,Tryz.ntmps107;go_wp2_with fail;go_ret;exact ⟨rfl,rfl⟩
 | false =>
  go_enter Tryz.func107,Tryz.ntmps107;go_wp2_with fail;go_ret;exact ⟨rfl,rfl⟩
theorem z0o {a b:Int} (h:¬ a=b):(a == b)=false:=by simp [h]
theorem zdq (op a:Int) (w:World):Calls Tryz.prog 98 #[.int .i64 op,.int .i64 a] w (IntS (unP op a) w):=by
 have HT:=zhi (z5r (a == 0) w)
 by_cases h1:op=1
 ·subst h1;clear HT;go_enter Tryz.func98,Tryz.ntmps98;go_wp2_with fail;go_ret;exact ⟨rfl,rfl⟩
 ·by_cases h2:op=2
  ·subst h2;clear h1;go_enter Tryz.func98,Tryz.ntmps98;go_wp2_with fail;refine HT.out.mono ?_;rintro e w1 ⟨rfl,rfl⟩;go_wp2_with fail;go_ret;exact ⟨rfl,rfl⟩
  ·have HU:Hid (unP op a=0):=zhi (by unfold unP; rw [if_neg h1,if_neg h2]);have h1:=z0o h1;have h2:=z0o h2;clear HT;go_enter Tryz.func98,Tryz.ntmps98;go_wp2_with fail;go_ret;exact ⟨by rw [HU.out]; rfl,rfl⟩
theorem zdp (op a:Int) (w:World):Calls Tryz.prog 102 #[.int .i64 op,.int .i64 a] w (IntS (unP op a) w):=by
 have HT:=zhi (z7E (a == 0) w)
 by_cases h1:op=1
 ·subst h1;clear HT;go_enter Tryz.func102,Tryz.ntmps102;go_wp2_with fail;go_ret;exact ⟨rfl,rfl⟩
 ·by_cases h2:op=2
  ·subst h2;clear h1;go_enter Tryz.func102,Tryz.ntmps102;go_wp2_with fail;refine HT.out.mono ?_;rintro e w1 ⟨rfl,rfl⟩;go_wp2_with fail;go_ret;exact ⟨rfl,rfl⟩
  ·have HU:Hid (unP op a=0):=zhi (by unfold unP; rw [if_neg h1,if_neg h2]);have h1:=z0o h1;have h2:=z0o h2;clear HT;go_enter Tryz.func102,Tryz.ntmps102;go_wp2_with fail;go_ret;exact ⟨by rw [HU.out]; rfl,rfl⟩
def ApS (x:Int × Bool) (w:World) (e:Ending) (w':World):Prop:=e=.returned (.tuple #[.int .i64 x.1,.bool x.2])/\∃ q,w'=w.drewN q
theorem zcp (op a b:Int) (w:World):Calls Tryz.prog 106 #[.int .i64 op,.int .i64 a,.int .i64 b] w (ApS (apP op a b) w):=by
 have HT:=zhi (fun (x:Bool) (w:World)=>z5r x w)
 by_cases h3:op=3
 ·subst h3;clear HT;go_enter Tryz.func106,Tryz.ntmps106;go_wp2_with fail
  go_ret2
  exact ⟨rfl,0,rfl⟩
 ·skip
  by_cases h4:op=4
  ·subst h4;clear h3;clear HT;go_enter Tryz.func106,Tryz.ntmps106;go_wp2_with fail
   go_ret2
   exact ⟨rfl,0,rfl⟩
  ·skip
   by_cases h5:op=5
   ·subst h5;clear h3 h4;clear HT;go_enter Tryz.func106,Tryz.ntmps106;go_wp2_with fail
    go_ret2
    exact ⟨rfl,0,rfl⟩
   ·skip
    by_cases h8:op=8
    ·subst h8;clear h3 h4 h5;have HE:=zhi (HT.out (decide (a<b)) w);clear HT;go_enter Tryz.func106,Tryz.ntmps106;go_wp2_with fail;refine HE.out.mono ?_;rintro e w1 ⟨rfl,rfl⟩;go_wp2_with fail
     go_ret2
     exact ⟨rfl,0,rfl⟩
    ·skip
     by_cases h9:op=9
     ·subst h9;clear h3 h4 h5 h8;have HE:=zhi (HT.out (decide (a<=b)) w);clear HT;go_enter Tryz.func106,Tryz.ntmps106;go_wp2_with fail;refine HE.out.mono ?_;rintro e w1 ⟨rfl,rfl⟩;go_wp2_with fail
      go_ret2
      exact ⟨rfl,0,rfl⟩
     ·skip
      by_cases h10:op=10
      ·subst h10;clear h3 h4 h5 h8 h9;have HE:=zhi (HT.out (a == b) w);clear HT;go_enter Tryz.func106,Tryz.ntmps106;go_wp2_with fail;refine HE.out.mono ?_;rintro e w1 ⟨rfl,rfl⟩;go_wp2_with fail
       go_ret2
       exact ⟨rfl,0,rfl⟩
      ·skip
       by_cases h11:op=11
       ·subst h11;clear h3 h4 h5 h8 h9 h10;have HE:=zhi (HT.out (a != b) w);clear HT;go_enter Tryz.func106,Tryz.ntmps106;go_wp2_with fail;refine HE.out.mono ?_;rintro e w1 ⟨rfl,rfl⟩;go_wp2_with fail
        go_ret2
        exact ⟨rfl,0,rfl⟩
       ·skip
        have HR:Hid (apP op a b=if b=0 then (0,false) else if op=6 then (wrap64 (a.tdiv b),true) else if op=7 then (a.tmod b,true) else (0,false)):=zhi (by unfold apP; rw [if_neg h3,if_neg h4,if_neg h5,if_neg h8,if_neg h9,if_neg h10,if_neg h11]);replace h3:=z0o h3;replace h4:=z0o h4;replace h5:=z0o h5;replace h8:=z0o h8;replace h9:=z0o h9;replace h10:=z0o h10;replace h11:=z0o h11;clear HT
        by_cases hb:b=0
        ·have HR2:=zhi (HR.out.trans (if_pos hb));clear HR;subst hb;go_enter Tryz.func106,Tryz.ntmps106;go_wp2_with fail
         go_ret2
         exact ⟨by rw [HR2.out]; rfl,0,rfl⟩
        ·have HR2:=zhi (HR.out.trans (if_neg hb));clear HR;have hb0:=z0o hb
         by_cases h6:op=6
         ·subst h6;clear h3 h4 h5 h8 h9 h10 h11;rw [if_pos rfl] at HR2;go_enter Tryz.func106,Tryz.ntmps106;go_wp2_with fail
          go_ret2
          exact ⟨by rw [HR2.out]; rfl,0,rfl⟩
         ·skip
          by_cases h7:op=7
          ·subst h7;clear h6 h3 h4 h5 h8 h9 h10 h11;rw [if_neg (by decide),if_pos rfl] at HR2;go_enter Tryz.func106,Tryz.ntmps106;go_wp2_with fail
           go_ret2
           exact ⟨by rw [HR2.out]; rfl,0,rfl⟩
          ·skip
           rw [if_neg h6,if_neg h7] at HR2;replace h6:=z0o h6;replace h7:=z0o h7;go_enter Tryz.func106,Tryz.ntmps106;go_wp2_with fail
           go_ret2
           exact ⟨by rw [HR2.out]; rfl,0,rfl⟩
theorem zco (op a b:Int) (w:World):Calls Tryz.prog 103 #[.int .i64 op,.int .i64 a,.int .i64 b] w (ApS (apP op a b) w):=by
 have HT:=zhi (fun (x:Bool) (w:World)=>z7E x w)
 by_cases h3:op=3
 ·subst h3;clear HT;go_enter Tryz.func103,Tryz.ntmps103;go_wp2_with fail
  go_ret2
  exact ⟨rfl,0,rfl⟩
 ·skip
  by_cases h4:op=4
  ·subst h4;clear h3;clear HT;go_enter Tryz.func103,Tryz.ntmps103;go_wp2_with fail
   go_ret2
   exact ⟨rfl,0,rfl⟩
  ·skip
   by_cases h5:op=5
   ·subst h5;clear h3 h4;clear HT;go_enter Tryz.func103,Tryz.ntmps103;go_wp2_with fail
    go_ret2
    exact ⟨rfl,0,rfl⟩
   ·skip
    by_cases h8:op=8
    ·subst h8;clear h3 h4 h5;have HE:=zhi (HT.out (decide (a<b)) w);clear HT;go_enter Tryz.func103,Tryz.ntmps103;go_wp2_with fail;refine HE.out.mono ?_;rintro e w1 ⟨rfl,rfl⟩;go_wp2_with fail
     go_ret2
     exact ⟨rfl,0,rfl⟩
    ·skip
     by_cases h9:op=9
     ·subst h9;clear h3 h4 h5 h8;have HE:=zhi (HT.out (decide (a<=b)) w);clear HT;go_enter Tryz.func103,Tryz.ntmps103;go_wp2_with fail;refine HE.out.mono ?_;rintro e w1 ⟨rfl,rfl⟩;go_wp2_with fail
      go_ret2
      exact ⟨rfl,0,rfl⟩
     ·skip
      by_cases h10:op=10
      ·subst h10;clear h3 h4 h5 h8 h9;have HE:=zhi (HT.out (a == b) w);clear HT;go_enter Tryz.func103,Tryz.ntmps103;go_wp2_with fail;refine HE.out.mono ?_;rintro e w1 ⟨rfl,rfl⟩;go_wp2_with fail
       go_ret2
       exact ⟨rfl,0,rfl⟩
      ·skip
       by_cases h11:op=11
       ·subst h11;clear h3 h4 h5 h8 h9 h10;have HE:=zhi (HT.out (a != b) w);clear HT;go_enter Tryz.func103,Tryz.ntmps103;go_wp2_with fail;refine HE.out.mono ?_;rintro e w1 ⟨rfl,rfl⟩;go_wp2_with fail
        go_ret2
        exact ⟨rfl,0,rfl⟩
       ·skip
        have HR:Hid (apP op a b=if b=0 then (0,false) else if op=6 then (wrap64 (a.tdiv b),true) else if op=7 then (a.tmod b,true) else (0,false)):=zhi (by unfold apP; rw [if_neg h3,if_neg h4,if_neg h5,if_neg h8,if_neg h9,if_neg h10,if_neg h11]);replace h3:=z0o h3;replace h4:=z0o h4;replace h5:=z0o h5;replace h8:=z0o h8;replace h9:=z0o h9;replace h10:=z0o h10;replace h11:=z0o h11;clear HT
        by_cases hb:b=0
        ·have HR2:=zhi (HR.out.trans (if_pos hb));clear HR;subst hb
         by_cases h6:op=6
         ·subst h6;clear h3 h4 h5 h8 h9 h10 h11;go_enter Tryz.func103,Tryz.ntmps103;go_wp2_with fail
          go_ret2
          exact ⟨by rw [HR2.out]; rfl,0,rfl⟩
         ·by_cases h7:op=7
          ·subst h7;clear h6 h3 h4 h5 h8 h9 h10 h11;go_enter Tryz.func103,Tryz.ntmps103;go_wp2_with fail
           go_ret2
           exact ⟨by rw [HR2.out]; rfl,0,rfl⟩
          ·replace h6:=z0o h6;replace h7:=z0o h7;go_enter Tryz.func103,Tryz.ntmps103;go_wp2_with fail
           go_ret2
           exact ⟨by rw [HR2.out]; rfl,0,rfl⟩
        ·have HR2:=zhi (HR.out.trans (if_neg hb));clear HR;have hb0:=z0o hb
         by_cases hm:b=-1
         ·subst hm;have HD:Hid (wrap64 (a.tdiv (-1))=wrap64 (-a)):=zhi (by rw [Int.tdiv_neg,Int.tdiv_one]);have HM:Hid (a.tmod (-1)=0):=zhi (by rw [Int.tmod_neg,Int.tmod_one])
          by_cases h6:op=6
          ·subst h6;clear hb hb0 h3 h4 h5 h8 h9 h10 h11;rw [if_pos rfl] at HR2;go_enter Tryz.func103,Tryz.ntmps103;go_wp2_with fail
           go_ret2
           exact ⟨by rw [HR2.out,HD.out]; rfl,0,rfl⟩
          ·skip
           by_cases h7:op=7
           ·subst h7;clear hb hb0 h6 h3 h4 h5 h8 h9 h10 h11;rw [if_neg (by decide),if_pos rfl] at HR2;go_enter Tryz.func103,Tryz.ntmps103;go_wp2_with fail
            go_ret2
            exact ⟨by rw [HR2.out,HM.out]; rfl,0,rfl⟩
           ·skip
            rw [if_neg h6,if_neg h7] at HR2;replace h6:=z0o h6;replace h7:=z0o h7;go_enter Tryz.func103,Tryz.ntmps103;go_wp2_with fail
            go_ret2
            exact ⟨by rw [HR2.out]; rfl,0,rfl⟩
         ·have hm2:(b != -1)=true:=by simp [hm]
          by_cases h6:op=6
          ·subst h6;clear h3 h4 h5 h8 h9 h10 h11;rw [if_pos rfl] at HR2;go_enter Tryz.func103,Tryz.ntmps103;go_wp2_with fail;go_quiet (fail);go_wp2_with fail
           go_ret2
           exact ⟨by rw [HR2.out]; rfl,_,rfl⟩
          ·skip
           by_cases h7:op=7
           ·subst h7;clear h6 h3 h4 h5 h8 h9 h10 h11;rw [if_neg (by decide),if_pos rfl] at HR2;go_enter Tryz.func103,Tryz.ntmps103;go_wp2_with fail;go_quiet (fail);go_wp2_with fail
            go_ret2
            exact ⟨by rw [HR2.out]; rfl,_,rfl⟩
           ·skip
            rw [if_neg h6,if_neg h7] at HR2;replace h6:=z0o h6;replace h7:=z0o h7;go_enter Tryz.func103,Tryz.ntmps103;go_wp2_with fail
            go_ret2
            exact ⟨by rw [HR2.out]; rfl,0,rfl⟩
structure Rn where
 sz:Value
 fn:Value
 ls:Int
 ld:Int
 st:Int
 dp:Int
 inp:Value
 ov:Value
 gv:Value
 lv:Value
def RnP (p:Nat) (r:Rn) (w:World):Prop:=w.heap[p]?=some (.cells #[r.sz,r.fn,.int .i64 r.ls,.int .i64 r.ld,.int .i64 r.st,.int .i64 r.dp,r.inp,r.ov,r.gv,r.lv] 59 (0,0))
theorem RnP.below {p:Nat} {r:Rn} {w w':World} (h:RnP p r w) (hb:Below w.heap.size w w'):RnP p r w':=(hb.block _ (q_0.1 h).1).trans h
def z5n (ls st:Int):Int × Int:=if ls<=st then (3,st) else (0,st+1)
def EndG (p:Nat) (k t:Int) (r:Rn) (w:World) (e:Ending) (w':World):Prop:=e=.returned (.agg #[.int .i64 k,.int .i64 t])/\RnP p r w'/\w.grownBy w' (some p)
theorem z0d {P:Program} {w:World} {ops:Array Oper} {rest:List Oper} {d:Option Tmp} {ty:TypeId} {x y:Operand} {pos:String} {af:Array Edge} {gd:Option (Nat × Bool)} {a:Act} {Q:Exit->Act->World->Prop}
  (h:z07 (wpList P ops Q ({ dst:=d,op:=.store 61 x y,type:=ty,pos:=pos,after:=af,guard:=gd } :: rest) a w)):wpList P ops Q ({ dst:=d,op:=.store 61 x y,type:=ty,pos:=pos,after:=af,guard:=gd } :: rest) a w:=h
theorem z17 {B:Nat} {a w:World} (h:Below B a w) (n:Nat):Below B a (w.drewN n):=⟨h.os,h.tape,h.output,h.size,h.block⟩
theorem zeh {p:Nat} {r:Rn} (w:World) (h:RnP p r w) (hst:0<=r.st) (hst2:r.st<4611686018427387904):Calls Tryz.prog 74 #[.pointer (some ⟨p,0,none⟩)] w (EndG p (z5n r.ls r.st).1 0 { r with st:=(z5n r.ls r.st).2 } w):=by
 have hb:=(q_i _ w).alloc (q_2 _) (.cells #[.int .i64 0,.int .i64 0] 61);have h1:RnP p r (w.alloc (.cells #[.int .i64 0,.int .i64 0] 61)):=h.below hb;have hz:=q_4 w (.cells #[.int .i64 0,.int .i64 0] 61);have plt:=(q_0.1 h).1;obtain ⟨sz,fn,ls,ld,st,dp,inp,ov,gv,lv⟩:=r;dsimp only at hst hst2;have c2:=zcr 2 h1;have c4:=zcr 4 h1;have f4:=z09 h1 4;have H1:=zhi h1;have HB:=zhi hb;have HZ:=zhi hz;clear h h1 hb hz
 by_cases hle:ls<=st
 ·have HP:Hid (z5n ls st=(3,st)):=zhi (if_pos hle);go_enter Tryz.func74,Tryz.ntmps74;go_wp2_with fail;go_quiet (fail);have HB2:=zhi (z17 HB.out nq);have HZ2:Hid (((w.alloc (.cells #[.int .i64 0,.int .i64 0] 61)).drewN nq).heap[w.heap.size]?=some (.cells #[.int .i64 0,.int .i64 0] 61 (0,0))):=zhi HZ.out;clear c2 c4 f4 HB HZ;go_wp2_with (with_reducible refine z0d ?_);refine z07.of (z00 _ rfl _ _ _ rfl w.heap.size _ rfl (by rfl) _ _ HZ2.out (by kernel_rfl) (by rfl) (by simp [Value.oneCell']) ?_);intro w9 hrow9 hg9;obtain ⟨j0,j1⟩:=cl2 hrow9;have HE:Hid (EndG p (z5n ls st).1 0 ⟨sz,fn,ls,ld,(z5n ls st).2,dp,inp,ov,gv,lv⟩ w (.returned (.agg #[.int .i64 3,.int .i64 0])) w9):=zhi (by
   rw [HP.out];exact ⟨rfl,z04 hg9 (by omega) H1.out,z0r ((z02 HB2.out (some p))) hg9 (q_2 _)⟩)
  clear hrow9 hg9;go_wp2_with fail;exact q_3 (by simp [results,Tryz.results74,go_sem,j0,j1]) rfl HE.out
 ·have HP:Hid (z5n ls st=(0,st+1)):=zhi (if_neg hle);go_enter Tryz.func74,Tryz.ntmps74;go_wp2_with fail;go_quiet (fail);have HB2:=zhi (z17 HB.out nq);have hg3:((w.alloc (.cells #[.int .i64 0,.int .i64 0] 61)).drewN nq).grownBy (((w.alloc (.cells #[.int .i64 0,.int .i64 0] 61)).drewN nq).setCell ⟨p,4,none⟩ (.int .i64 (st+1))) (some p):=z03 _ ⟨p,4,none⟩ _;have HR3:Hid (RnP p ⟨sz,fn,ls,ld,st+1,dp,inp,ov,gv,lv⟩ (((w.alloc (.cells #[.int .i64 0,.int .i64 0] 61)).drewN nq).setCell ⟨p,4,none⟩ (.int .i64 (st+1)))):=zhi (z0a (i:=4) _ H1.out);have HZ3:=zhi (z04 hg3 (by omega) (show ((w.alloc (.cells #[.int .i64 0,.int .i64 0] 61)).drewN nq).heap[w.heap.size]?=some (.cells #[.int .i64 0,.int .i64 0] 61 (0,0)) from HZ.out));have HG3:=zhi ((z02 HB2.out (some p)).trans hg3);clear HB HZ hg3;go_wp2_with (with_reducible refine z0d ?_);refine z07.of (z00 _ rfl _ _ _ rfl w.heap.size _ rfl (by rfl) _ _ HZ3.out (by kernel_rfl) (by rfl) (by simp [Value.oneCell']) ?_);intro w9 hrow9 hg9;obtain ⟨j0,j1⟩:=cl2 hrow9;have HE:Hid (EndG p (z5n ls st).1 0 ⟨sz,fn,ls,ld,(z5n ls st).2,dp,inp,ov,gv,lv⟩ w (.returned (.agg #[.int .i64 0,.int .i64 0])) w9):=zhi (by
   rw [HP.out];exact ⟨rfl,z04 hg9 (by omega) HR3.out,z0r HG3.out hg9 (q_2 _)⟩)
  clear hrow9 hg9;go_wp2_with fail;exact q_3 (by simp [results,Tryz.results74,go_sem,j0,j1]) rfl HE.out
def ValE (z k t:Int) (w:World) (e:Ending) (w':World):Prop:=e=.returned (.tuple #[.int .i64 z,.agg #[.int .i64 k,.int .i64 t]])/\Below w.heap.size w w'
def appP (op a b:Int):Int × Int × Int:=if (apP op a b).2 then ((apP op a b).1,0,0) else (0,2,1)
theorem z8n (op a b:Int) (w:World):Calls Tryz.prog 99 #[.int .i64 op,.int .i64 a,.int .i64 b] w (ValE (appP op a b).1 (appP op a b).2.1 (appP op a b).2.2 w):=by
 have hb:=(q_i _ w).alloc (q_2 _) (.cells #[.int .i64 0,.int .i64 0] 61);have HZ:=zhi (q_4 w (.cells #[.int .i64 0,.int .i64 0] 61));have HB:=zhi hb;have HA:=zhi (zcp op a b (w.alloc (.cells #[.int .i64 0,.int .i64 0] 61)));have HV:Hid (appP op a b=if (apP op a b).2 then ((apP op a b).1,0,0) else (0,2,1)):=zhi rfl;generalize apP op a b=x at HA HV;obtain ⟨z,ok⟩:=x;clear hb;cases ok with
 | true =>
  go_enter Tryz.func99,Tryz.ntmps99;go_wp2_with fail;refine HA.out.mono ?_;rintro e w1 ⟨rfl,q,rfl⟩;have HB1:=zhi (z17 HB.out q);have HZ1:Hid (((w.alloc (.cells #[.int .i64 0,.int .i64 0] 61)).drewN q).heap[w.heap.size]?=some (.cells #[.int .i64 0,.int .i64 0] 61 (0,0))):=zhi HZ.out;clear HB HZ HA;go_wp2_with (with_reducible refine z0d ?_);refine z07.of (z00 _ rfl _ _ _ rfl w.heap.size _ rfl (by rfl) _ _ HZ1.out (by kernel_rfl) (by rfl) (by simp [Value.oneCell']) ?_);intro w9 hrow9 hg9;obtain ⟨j0,j1⟩:=cl2 hrow9;have HE:Hid (ValE (appP op a b).1 (appP op a b).2.1 (appP op a b).2.2 w (.returned (.tuple #[.int .i64 z,.agg #[.int .i64 0,.int .i64 0]])) w9):=zhi (by
   rw [HV.out];exact ⟨rfl,HB1.out.trans (z05 hg9 (fun k hk=>by injection hk with hk; omega) (by have:=HB1.out.size; omega))⟩)
  clear hrow9 hg9;go_wp2_with fail;exact q_3 (by simp [results,Tryz.results99,go_sem,j0,j1]) rfl HE.out
 | false =>
  go_enter Tryz.func99,Tryz.ntmps99;go_wp2_with fail;refine HA.out.mono ?_;rintro e w1 ⟨rfl,q,rfl⟩;have HB1:=zhi (z17 HB.out q);have HZ1:Hid (((w.alloc (.cells #[.int .i64 0,.int .i64 0] 61)).drewN q).heap[w.heap.size]?=some (.cells #[.int .i64 0,.int .i64 0] 61 (0,0))):=zhi HZ.out;clear HB HZ HA;go_wp2_with (with_reducible refine z0d ?_);refine z07.of (z00 _ rfl _ _ _ rfl w.heap.size _ rfl (by rfl) _ _ HZ1.out (by kernel_rfl) (by rfl) (by simp [Value.oneCell']) ?_);intro w9 hrow9 hg9;obtain ⟨j0,j1⟩:=cl2 hrow9;have HE:Hid (ValE (appP op a b).1 (appP op a b).2.1 (appP op a b).2.2 w (.returned (.tuple #[.int .i64 0,.agg #[.int .i64 2,.int .i64 1]])) w9):=zhi (by
   rw [HV.out];exact ⟨rfl,HB1.out.trans (z05 hg9 (fun k hk=>by injection hk with hk; omega) (by have:=HB1.out.size; omega))⟩)
  clear hrow9 hg9;go_wp2_with fail;exact q_3 (by simp [results,Tryz.results99,go_sem,j0,j1]) rfl HE.out
structure Sx where
 st:Int
 inp:List Int
 out:List Int
 gl:List (List Int)
 lv:List Int
abbrev Rz:=(Int × Int × Int) × Sx
inductive Sn where
 | mk (kind number:Int) (exprs:List Ex) (thens elses:List Sn)
structure Fz where
 params:Nat
 locals:Nat
 body:List Sn
def tick (s:Sx):Sx:={ s with st:=s.st+1 }
def glAt (s:Sx) (a:Int):List Int:=s.gl.getD a.toNat []
abbrev Lz:=List Int × (Int × Int) × Sx
def zcons (r:Rz) (f:Sx->Lz):Lz :=
 if r.1.2.1=0 then (if (f r.2).2.1.1=0 then (r.1.1 :: (f r.2).1,(0,0),(f r.2).2.2) else ([],(f r.2).2.1,(f r.2).2.2)) else ([],(r.1.2.1,r.1.2.2),r.2)
abbrev Cz:=Int->List Int->Sx->Rz
def z0W (r:Rz) (g:Int->Sx->Rz):Rz:=if r.1.2.1=0 then g r.1.1 r.2 else ((0,r.1.2.1,r.1.2.2),r.2)
def z0V (q:Lz) (g:List Int->Sx->Rz):Rz:=if q.2.1.1=0 then g q.1 q.2.2 else ((0,q.2.1.1,q.2.1.2),q.2.2)
def z18 (pn:List Nat) (C:Cz) (l:List Int) (s:Sx):Rz :=
 match l with
 | []=>((0,2,3),s)
 | v :: r=>if 0<=v/\pn[v.toNat]?=some r.length then C v r s else ((0,2,3),s)
def zel (l:List Int) (v:Int) (s:Sx):Rz:=if 0<=v/\v<(l.length:Int) then ((l.getD v.toNat 0,0,0),s) else ((0,2,2),s)
def z1 (k o a:Int) (v:Int) (s:Sx):Rz:=if k=4 then zel (glAt s a) v s else ((unP o v,0,0),s)
def truZ (b:Bool):Int:=if b then 1 else 0
def z2v (k o v u:Int):Int × Int × Int:=if k=6 then appP o v u else (truZ (u != 0),0,0)
def z2 (k o:Int) (f:Sx->Rz) (v:Int) (s:Sx):Rz :=
 if k=7/\v=0 then ((0,0,0),s) else if k=8/\v≠0 then ((1,0,0),s) else z0W (f s) fun u s2=>(z2v k o v u,s2)
mutual
def zX (ls:Int) (pn:List Nat) (C:Cz):Ex->Sx->Rz
 | .mk k o a _ _ xs,s =>
  if ls<=s.st then ((0,3,0),s)
  else if k=1\/k=11 then ((a,0,0),tick s)
  else if k=2 then ((s.lv.getD a.toNat 0,0,0),tick s)
  else if k=3 then (((glAt s a).getD 0 0,0,0),tick s)
  else if k=12 then ((s.inp.headD 0,0,0),{ tick s with inp:=s.inp.tail })
  else if k=9 then z0V (zL ls pn C xs (tick s)) (C a)
  else if k=10 then z0V (zL ls pn C xs (tick s)) (z18 pn C)
  else match xs with
   | [x]=>z0W (zX ls pn C x (tick s)) (z1 k o a)
   | [x,y]=>z0W (zX ls pn C x (tick s)) (z2 k o (zX ls pn C y))
   | _=>((0,0,0),tick s)
def zL (ls:Int) (pn:List Nat) (C:Cz):List Ex->Sx->Lz
 | [],s=>([],(0,0),s)
 | x :: xs,s=>zcons (zX ls pn C x s) (zL ls pn C xs)
end
def zO (ls:Int) (pn:List Nat) (C:Cz) (k o a:Int) (xs:List Ex) (s:Sx):Rz :=
 match xs with
 | [x]=>z0W (zX ls pn C x s) (z1 k o a)
 | [x,y]=>z0W (zX ls pn C x s) (z2 k o (zX ls pn C y))
 | _=>((0,0,0),s)
theorem z8b (ls:Int) (pn:List Nat) (C:Cz) (k o a l:Int) (nm:Zb) (xs:List Ex) (s:Sx):zX ls pn C (.mk k o a l nm xs) s =
  if ls<=s.st then ((0,3,0),s)
  else if k=1\/k=11 then ((a,0,0),tick s)
  else if k=2 then ((s.lv.getD a.toNat 0,0,0),tick s)
  else if k=3 then (((glAt s a).getD 0 0,0,0),tick s)
  else if k=12 then ((s.inp.headD 0,0,0),{ tick s with inp:=s.inp.tail })
  else if k=9 then z0V (zL ls pn C xs (tick s)) (C a)
  else if k=10 then z0V (zL ls pn C xs (tick s)) (z18 pn C)
  else zO ls pn C k o a xs (tick s):=by
 match xs with
 | []=>rfl
 | [x]=>rfl
 | [x,y]=>rfl
 | x :: y :: z :: r=>rfl
def zW (ls:Int) (b:Sx->Rz) (c:Sx->Rz):Nat->Int->Sx->Rz
 | 0,_,s=>((0,3,0),s)
 | n+1,v,s =>
  if v=0 then ((0,0,0),s)
  else if (b s).1.2.1=0 then
   (if ls<=(b s).2.st then (((b s).1.1,3,0),(b s).2)
   else if (c (tick (b s).2)).1.2.1=0 then zW ls b c n (c (tick (b s).2)).1.1 (c (tick (b s).2)).2
   else (((b s).1.1,(c (tick (b s).2)).1.2.1,(c (tick (b s).2)).1.2.2),(c (tick (b s).2)).2))
  else b s
def setG (s:Sx) (n:Int) (i v:Int):Sx:={ s with gl:=s.gl.set n.toNat ((glAt s n).set i.toNat v) }
def zSt (n v:Int) (x:Int) (s:Sx):Rz:=if 0<=v/\v<((glAt s n).length:Int) then ((0,0,0),setG s n v x) else ((0,2,2),s)
def zPr (v:Int) (s:Sx):Rz:=if s.out.length=4096 then ((0,3,0),s) else ((0,0,0),{ s with out:=s.out++[v] })
def zSr (k n:Int) (sec:Sx->Rz) (th el:Sx->Rz) (lp:Int->Sx->Rz) (v:Int) (s:Sx):Rz :=
 if k=1 then ((0,0,0),{ s with lv:=s.lv.set n.toNat v })
 else if k=2 then ((0,0,0),setG s n 0 v)
 else if k=3 then z0W (sec s) (zSt n v)
 else if k=4 then (if v≠0 then th s else el s)
 else if k=5 then lp v s
 else if k=6 then ((v,1,0),s)
 else if k=7 then zPr v s
 else ((0,0,0),s)
def zsec (f:Ex->Sx->Rz):List Ex->Sx->Rz
 | y :: _,s=>f y s
 | [],s=>((0,0,0),s)
mutual
def zS (ls:Int) (pn:List Nat) (C:Cz):Sn->Sx->Rz
 | .mk k n es ts us,s =>
  if ls<=s.st then ((0,3,0),s)
  else match es with
   | []=>((0,0,0),tick s)
   | x :: r=>z0W (zX ls pn C x (tick s)) (zSr k n (zsec (zX ls pn C) r) (zB ls pn C ts) (zB ls pn C us) (fun v s1=>zW ls (zB ls pn C ts) (zX ls pn C x) ((ls - s1.st).toNat+1) v s1))
def zB (ls:Int) (pn:List Nat) (C:Cz):List Sn->Sx->Rz
 | [],s=>((0,0,0),s)
 | t :: ts,s=>if (zS ls pn C t s).1.2.1=0 then zB ls pn C ts (zS ls pn C t s).2 else zS ls pn C t s
end
def retK (k:Int):Int:=if k=1 then 0 else k
def zC (ls:Int) (fs:List Fz):Nat->Cz
 | 0,_,_,s=>((0,3,0),s)
 | n+1,f,args,s =>
  match fs[f.toNat]? with
  | none=>((0,0,0),s)
  | some F =>
   let r:=zB ls (fs.map (·.params)) (zC ls fs n) F.body { s with lv:=args.take F.locals++List.replicate (F.locals - args.length) 0 }
   ((r.1.1,retK r.1.2.1,r.1.2.2),{ r.2 with lv:=s.lv })
def zK (k:Int):Int:=if k=0 then 1 else k
def zRun (ls ld:Int) (fs:List Fz) (gs:List Nat) (inp:List Int):Rz :=
 let r:=zC ls fs ld.toNat 0 [] ⟨0,inp,[],gs.map fun n=>List.replicate n 0,[]⟩
 ((r.1.1,zK r.1.2.1,r.1.2.2),r.2)
mutual
def wzX (nl:Nat) (gs:List Nat) (nf:Nat):Ex->Prop
 | .mk k _ a _ _ xs=>((k=1\/k=11\/k=12)\/(k=2/\0<=a/\a.toNat<nl)\/(k=3/\0<=a/\∃ m,gs[a.toNat]?=some m/\0<m)\/(k=4/\0<=a/\a.toNat<gs.length/\xs.length=1)\/(k=5/\xs.length=1) \/
   ((k=6\/k=7\/k=8)/\xs.length=2)\/(k=9/\0<=a/\a.toNat<nf/\xs.length<=1000)\/(k=10/\1<=xs.length/\xs.length<=1000))/\wzL nl gs nf xs
def wzL (nl:Nat) (gs:List Nat) (nf:Nat):List Ex->Prop
 | []=>True
 | x :: xs=>wzX nl gs nf x/\wzL nl gs nf xs
end
theorem z4l {nl:Nat} {gs:List Nat} {nf:Nat}:∀ {xs:List Ex} {i:Nat} {x:Ex},wzL nl gs nf xs->xs[i]?=some x->wzX nl gs nf x
 | [],_,_,_,h=>by simp at h
 | y :: ys,0,x,h,hi=>by
  simp at hi;subst hi;exact h.1
 | y :: ys,i+1,x,h,hi=>z4l h.2 (by simpa using hi)
mutual
def wzS (nl:Nat) (gs:List Nat) (nf:Nat):Sn->Prop
 | .mk k n es ts us=>(1<=es.length/\(k=1->0<=n/\n.toNat<nl)/\(k=2->0<=n/\∃ m,gs[n.toNat]?=some m/\0<m)/\(k=3->0<=n/\n.toNat<gs.length/\2<=es.length)/\ts.length<=1000000/\us.length<=1000000)/\wzL nl gs nf es/\wzB nl gs nf ts/\wzB nl gs nf us
def wzB (nl:Nat) (gs:List Nat) (nf:Nat):List Sn->Prop
 | []=>True
 | t :: ts=>wzS nl gs nf t/\wzB nl gs nf ts
end
theorem zai {nl:Nat} {gs:List Nat} {nf:Nat}:∀ {xs:List Sn} {i:Nat} {x:Sn},wzB nl gs nf xs->xs[i]?=some x->wzS nl gs nf x
 | [],_,_,_,h=>by simp at h
 | y :: ys,0,x,h,hi=>by
  simp at hi;subst hi;exact h.1
 | y :: ys,i+1,x,h,hi=>zai h.2 (by simpa using hi)
abbrev NmF:=Zb->Option Int
def NmF.put (m:NmF) (s:Zb) (v:Int):NmF:=fun t=>if t.data.toList == s.data.toList then some v else m t
def nilF:NmF:=fun _=>none
def z1k:NmF->Nat->List Zb->NmF
 | m,_,[]=>m
 | m,i,s :: l=>z1k (m.put s (i:Int)) (i+1) l
mutual
def nX (L O:NmF):Ex->Ex
 | .mk k o a l s xs=>.mk k o (if k=2 then (L s).getD 0 else if k=3\/k=4\/k=9\/k=11 then (O s).getD 0 else a) l s (nL L O xs)
def nL (L O:NmF):List Ex->List Ex
 | []=>[]
 | x :: xs=>nX L O x :: nL L O xs
end
mutual
def nS (L O:NmF):St->Sn
 | .mk k _ s es ts us=>.mk (if (L s).isSome then 1 else k) (if (L s).isSome then (L s).getD 0 else (O s).getD 0) (nL L O es) (nB L O ts) (nB L O us)
def nB (L O:NmF):List St->List Sn
 | []=>[]
 | t :: ts=>nS L O t :: nB L O ts
end
def locF (f:Fn):NmF:=z1k nilF 0 (f.params++vrL f.body)
def outF (gl:GlL) (fl:List Fn):NmF:=z1k (z1k nilF 0 (gl.map (·.1))) 0 (fl.map (·.name))
def nF (O:NmF) (f:Fn):Fz:=⟨f.params.length,(f.params++vrL f.body).length,nB (locF f) O f.body⟩
def z10 (gl:GlL):List Nat:=gl.map fun x=>(max x.2 1).toNat
theorem z1G {L O:NmF}:∀ (xs:List Ex),(nL L O xs).length=xs.length
 | []=>rfl
 | x :: xs=>by simp [nL,z1G xs]
theorem zbZ {L O:NmF}:∀ (xs ys:List Ex),nL L O (xs++ys)=nL L O xs++nL L O ys
 | [],_=>rfl
 | x :: xs,ys=>by simp [nL,zbZ xs]
theorem z1Z {L O:NmF}:∀ (xs:List St),(nB L O xs).length=xs.length
 | []=>rfl
 | x :: xs=>by simp [nB,z1Z xs]
theorem zbY {L O:NmF}:∀ (xs ys:List St),nB L O (xs++ys)=nB L O xs++nB L O ys
 | [],_=>rfl
 | x :: xs,ys=>by simp [nB,zbY xs]
theorem z7k (m:NmF) (s:Zb) (v:Int):m.put s v s=some v:=by simp [NmF.put]
theorem z5O {m:NmF} {s t:Zb} {v:Int} (h:t≠s):m.put s v t=m t:=by
 unfold NmF.put;rw [if_neg];rw [beq_iff_eq];exact fun e=>h (z1A e)
theorem z5P:∀ (l:List Zb) (s:Zb) (m:NmF) (i:Nat),z1k m i (l++[s])=(z1k m i l).put s ((i+l.length:Nat):Int)
 | [],s,m,i=>rfl
 | x :: l,s,m,i=>by
  show z1k (m.put x i) (i+1) (l++[s])=_
  rw [z5P l s]
  show (z1k (m.put x i) (i+1) l).put s _=(z1k (m.put x i) (i+1) l).put s _
  congr 2
  simp;omega
theorem z0F:∀ (l:List Zb) (m:NmF) (i:Nat) (s:Zb),(s∈l->∃ j:Nat,i<=j/\j<i+l.length/\l[j - i]?=some s/\z1k m i l s=some (j:Int))/\(s ∉ l->z1k m i l s=m s)
 | [],m,i,s=>⟨fun h=>by simp at h,fun _=>rfl⟩
 | x :: l,m,i,s=>by
  obtain ⟨h1,h2⟩:=z0F l (m.put x i) (i+1) s;refine ⟨fun h=>?_,fun h=>?_⟩
  ·by_cases hl:s∈l
   ·obtain ⟨j,j1,j2,j3,j4⟩:=h1 hl;refine ⟨j,by omega,by simp; omega,?_,j4⟩;have e:j - i=(j - (i+1))+1:=by omega
    rw [e,List.getElem?_cons_succ];exact j3
   ·have hx:s=x:=by
     rcases q_d.1 h with e | e
     ·exact e
     ·exact absurd e hl
    refine ⟨i,q_2 _,by simp,by simp [hx],?_⟩
    show z1k (m.put x i) (i+1) l s=_
    rw [h2 hl,hx,z7k]
  ·have hx:s≠x:=fun e=>h (by simp [e])
   have hl:s ∉ l:=fun e=>h (by simp [e])
   show z1k (m.put x i) (i+1) l s=_
   rw [h2 hl,z5O hx]
mutual
def shA:Ex->Prop
 | .mk k _ _ _ _ xs=>((k=1\/k=11\/k=12\/k=13)\/(k=4/\xs.length=1)\/(k=5/\xs.length=1)\/((k=6\/k=7\/k=8)/\xs.length=2)\/(k=9/\xs.length<=100)\/(k=10/\1<=xs.length/\xs.length<=100))/\shAL xs
def shAL:List Ex->Prop
 | []=>True
 | x :: xs=>shA x/\shAL xs
end
mutual
def shT:St->Prop
 | .mk k _ _ es ts us=>(1<=k/\k<=8/\1<=es.length/\(k=3->2<=es.length)/\ts.length<=1000000/\us.length<=1000000)/\shAL es/\shTL ts/\shTL us
def shTL:List St->Prop
 | []=>True
 | t :: ts=>shT t/\shTL ts
end
structure z7C (gl:GlL) (fl:List Fn) (L O:NmF) (nl:Nat) (gs:List Nat) (nf:Nat):Prop where
 l:∀ s z,L s=some z->0<=z/\z.toNat<nl
 s2:∀ s,z0D gl fl s=2->∃ z m,O s=some z/\0<=z/\gs[z.toNat]?=some m/\0<m
 s3:∀ s,z0D gl fl s=3->∃ z,O s=some z/\0<=z/\z.toNat<gs.length
 s4:∀ s,z0D gl fl s=4->∃ z,O s=some z/\0<=z/\z.toNat<nf
section
variable {gl:GlL} {fl:List Fn} {L O:NmF} {nl:Nat} {gs:List Nat} {nf:Nat}
theorem z3Q {ls:List Zb} {s:Zb} (h:z0s gl fl ls s=1):s∈ls:=by
 unfold z0s at h;split at h
 ·rename_i hb;exact Classical.byContradiction fun e=>by
   have:=z4Y (xs:=ls) (s:=s) (fun j _ h=>e (q_a h));rw [this] at hb;cases hb
 ·unfold z0D at h;split at h
  ·split at h <;> cases h
  ·split at h <;> cases h
theorem z1a {ls:List Zb} {s:Zb} (h:z0s gl fl ls s≠1):z0D gl fl s=z0s gl fl ls s:=by
 unfold z0s at h ⊢;split
 ·rename_i hb;rw [if_pos hb] at h;exact absurd rfl h
 ·rfl
theorem zes (hn:z7C gl fl L O nl gs nf) {ls:List Zb} (hl:∀ s∈ls,(L s).isSome=true) {s:Zb} {l:Int} (h:z0s gl fl ls s=1\/z0s gl fl ls s=2):wzX nl gs nf (nX L O (vrX gl fl ls s l)):=by
 unfold vrX
 by_cases h1:z0s gl fl ls s=1
 ·rw [if_pos h1];obtain ⟨z,hz⟩:=Option.isSome_iff_exists.1 (hl s (z3Q h1));have hr:=hn.l s z hz;refine ⟨.inr (.inl ⟨rfl,?_⟩),trivial⟩;simpa [hz] using hr
 ·rw [if_neg h1];have h2:z0s gl fl ls s=2:=by rcases h with h | h; exact absurd h h1; exact h
  obtain ⟨z,m,hz,h3,h4,h5⟩:=hn.s2 s (by rw [z1a (ls:=ls) (by omega)]; exact h2);refine ⟨.inr (.inr (.inl ⟨rfl,?_⟩)),trivial⟩;have e:(if (3:Int)=2 then (L s).getD 0 else if (3:Int)=3\/(3:Int)=4\/(3:Int)=9\/(3:Int)=11 then (O s).getD 0 else 0)=z:=by simp [hz]
  rw [e];exact ⟨h3,m,h4,h5⟩
mutual
theorem zf2 (hn:z7C gl fl L O nl gs nf) {ls:List Zb} (hl:∀ s∈ls,(L s).isSome=true):∀ x,okX gl fl ls x->shA x->wzX nl gs nf (nX L O (rsX gl fl ls x))
 | .mk k o a l s xs,ho,hs=>by
  obtain ⟨⟨n1,n2,n3,n4,n5⟩,ho2⟩:=ho;obtain ⟨hk,hs2⟩:=hs;have hrec:=zaj hn hl xs ho2 hs2;unfold rsX
  by_cases h13:k=13
  ·rw [if_pos h13];exact zes hn hl (n1 h13)
  ·rw [if_neg h13]
   by_cases h9:k=9/\z0s gl fl ls s<=2
   ·rw [if_pos h9];have hw:z0s gl fl ls s=1\/z0s gl fl ls s=2:=by
     rcases n4 h9.1 with ⟨h,_⟩ | h | h
     ·omega
     ·exact .inl h
     ·exact .inr h
    refine ⟨?_,zes hn hl hw,hrec⟩;refine .inr (.inr (.inr (.inr (.inr (.inr (.inr ⟨rfl,?_⟩))))));simp [nL,z1G,z11];omega
   ·rw [if_neg h9];refine ⟨?_,hrec⟩;have hlen:(nL L O (rsL gl fl ls xs)).length=xs.length:=by rw [z1G,z11]
    rw [hlen]
    by_cases h11:k=11
    ·exact .inl (.inr (.inl h11))
    by_cases h4:k=4
    ·obtain ⟨z,hz,z1,z2⟩:=hn.s3 s (by rw [z1a (ls:=ls) (by have:=n2 h4; omega)]; exact n2 h4);subst h4;refine .inr (.inr (.inr (.inl ⟨rfl,?_⟩)));simp only [hz];exact ⟨z1,z2,by omega⟩
    by_cases hk9:k=9
    ·have hw:z0s gl fl ls s=4:=by
      rcases n4 hk9 with ⟨h,_⟩ | h | h
      ·exact h
      ·exact absurd ⟨hk9,by omega⟩ h9
      ·exact absurd ⟨hk9,by omega⟩ h9
     obtain ⟨z,hz,z1,z2⟩:=hn.s4 s (by rw [z1a (ls:=ls) (by omega)]; exact hw);subst hk9;refine .inr (.inr (.inr (.inr (.inr (.inr (.inl ⟨rfl,?_⟩))))));simp only [hz];exact ⟨z1,z2,by omega⟩
    rcases hk with hk | hk | hk | hk | hk | hk
    ·exact .inl (by omega)
    ·omega
    ·exact .inr (.inr (.inr (.inr (.inl hk))))
    ·exact .inr (.inr (.inr (.inr (.inr (.inl hk)))))
    ·omega
    ·exact .inr (.inr (.inr (.inr (.inr (.inr (.inr ⟨hk.1,by omega,by omega⟩))))))
theorem zaj (hn:z7C gl fl L O nl gs nf) {ls:List Zb} (hl:∀ s∈ls,(L s).isSome=true):∀ xs,okL gl fl ls xs->shAL xs->wzL nl gs nf (nL L O (rsL gl fl ls xs))
 | [],_,_=>trivial
 | x :: xs,ho,hs=>⟨zf2 hn hl x ho.1 hs.1,zaj hn hl xs ho.2 hs.2⟩
end
mutual
theorem zf1 (hn:z7C gl fl L O nl gs nf):∀ (t:St) {ls:List Zb},(∀ s∈ls++vrS t,(L s).isSome=true)->okS gl fl ls t->shT t->wzS nl gs nf (nS L O (rsS gl fl ls t))
 | .mk k l s es ts us,ls,hl,ho,hs=>by
  obtain ⟨⟨o1,o2,o3,o4⟩,⟨p1,p2,p3⟩,⟨q1,q2⟩,r1,r2⟩:=ho;obtain ⟨⟨s1,s2,s3,s4,s5,s6⟩,t1,t2,t3⟩:=hs;have hv:vrS (.mk k l s es ts us)=(if k=1 then [s] else [])++vrL ts++vrL us:=rfl;rw [hv] at hl;have hh:hdS k s=if k=1 then [s] else []:=by
   unfold hdS;rfl
  have hl1:∀ x∈ls,(L x).isSome=true:=fun x hx=>hl x (by simp [hx])
  have hl2:∀ x∈(ls++hdS k s)++vrL ts,(L x).isSome=true:=fun x hx=>hl x (by
   rw [hh] at hx;simp only [q_8] at hx ⊢;rcases hx with (hx | hx) | hx
   ·exact .inl hx
   ·exact .inr (.inl (.inl hx))
   ·exact .inr (.inl (.inr hx)))
  have hl3:∀ x∈(ls++hdS k s++vrL ts)++vrL us,(L x).isSome=true:=fun x hx=>hl x (by
   rw [hh] at hx;simp only [q_8] at hx ⊢;rcases hx with ((hx | hx) | hx) | hx
   ·exact .inl hx
   ·exact .inr (.inl (.inl hx))
   ·exact .inr (.inl (.inr hx))
   ·exact .inr (.inr hx))
  refine ⟨⟨by rw [z1G,z11]; exact s3,?_,?_,?_,by rw [z1Z,z1m]; exact s5,by rw [z1Z,z1m]; exact s6⟩,zaj hn hl1 es o1 t1,zbA hn ts hl2 r1 t2,zbA hn us hl3 r2 t3⟩
  ·intro hk
   by_cases hi:(L s).isSome=true
   ·obtain ⟨z,hz⟩:=Option.isSome_iff_exists.1 hi;have:=hn.l s z hz;simpa [hz] using this
   ·rw [if_neg hi] at hk;exact absurd (hl s (by simp [hk])) hi
  ·intro hk
   by_cases hi:(L s).isSome=true
   ·rw [if_pos hi] at hk;cases hk
   ·rw [if_neg hi] at hk ⊢;rcases p2 hk with h | h
    ·exact absurd (hl1 s (z3Q h)) hi
    ·obtain ⟨z,m,hz,z1,z2,z3⟩:=hn.s2 s (by rw [z1a (ls:=ls) (by omega)]; exact h);simp only [hz];exact ⟨z1,m,z2,z3⟩
  ·intro hk
   by_cases hi:(L s).isSome=true
   ·rw [if_pos hi] at hk;cases hk
   ·rw [if_neg hi] at hk ⊢;obtain ⟨z,hz,z1,z2⟩:=hn.s3 s (by rw [z1a (ls:=ls) (by have:=p3 hk; omega)]; exact p3 hk);simp only [hz];exact ⟨z1,z2,by rw [z1G,z11]; exact s4 hk⟩
theorem zbA (hn:z7C gl fl L O nl gs nf):∀ (ts:List St) {ls:List Zb},(∀ s∈ls++vrL ts,(L s).isSome=true)->okB gl fl ls ts->shTL ts->wzB nl gs nf (nB L O (rsB gl fl ls ts))
 | [],_,_,_,_=>trivial
 | t :: ts,ls,hl,ho,hs=>by
  have hv:vrL (t :: ts)=vrS t++vrL ts:=rfl;rw [hv] at hl;exact ⟨zf1 hn t (fun s h=>hl s (by simp only [q_8] at h ⊢; rcases h with h | h; exact .inl h; exact .inr (.inl h))) ho.1 hs.1,zbA hn ts (fun s h=>hl s (by simp only [q_8] at h ⊢; rcases h with (h | h) | h; exact .inl h; exact .inr (.inl h); exact .inr (.inr h))) ho.2 hs.2⟩
end
end
mutual
theorem zf0 {gl:GlL} {fl:List Fn}:∀ (t:St) (ls:List Zb),vrS (rsS gl fl ls t)=vrS t
 | .mk k l s es ts us,ls=>by
  show (if k=1 then [s] else [])++vrL (rsB gl fl _ ts)++vrL (rsB gl fl _ us)=(if k=1 then [s] else [])++vrL ts++vrL us
  rw [z65 ts,z65 us]
theorem z65 {gl:GlL} {fl:List Fn}:∀ (ts:List St) (ls:List Zb),vrL (rsB gl fl ls ts)=vrL ts
 | [],_=>rfl
 | t :: ts,ls=>by
  show vrS (rsS gl fl ls t)++vrL (rsB gl fl _ ts)=vrS t++vrL ts
  rw [zf0 t,z65 ts]
end
theorem ze8 {gl:GlL} {fl:List Fn} (hs:z4n gl fl) (f:Fn):z7C gl fl (locF f) (outF gl fl) (f.params++vrL f.body).length (z10 gl) fl.length:=by
 have hg:∀ s k,z0S (gl.map (·.1)) s=some k->∃ x,gl[k]?=some x/\x.1=s:=fun s k h=>by
  have:=z40 h;rw [q_b,q_c] at this;obtain ⟨x,h1,h2⟩:=this;exact ⟨x,h1,h2⟩
 have hgo:∀ s k,z0S (gl.map (·.1)) s=some k->outF gl fl s=some (k:Int):=fun s k h=>by
  obtain ⟨x,hx,rfl⟩:=hg s k h;have hnf:x.1 ∉ fl.map (·.name):=fun e=>by
   obtain ⟨f,hf,he⟩:=List.mem_map.1 e;obtain ⟨i,hi⟩:=q_l hf;have:=(hs.fd i f hi).1;rw [he,h] at this;cases this
  unfold outF;rw [(z0F (fl.map (·.name)) _ 0 x.1).2 hnf];obtain ⟨j,_,j2,j3,j4⟩:=(z0F (gl.map (·.1)) nilF 0 x.1).1 (List.mem_map.2 ⟨x,q_a hx,rfl⟩);rw [j4];rw [Nat.sub_zero,q_b,q_c] at j3;obtain ⟨y,hy,hy2⟩:=j3;have h1:=hs.gd j y hy;rw [hy2,h] at h1;injection h1 with h1;rw [h1]
 refine ⟨fun s z hz=>?_,fun s h=>?_,fun s h=>?_,fun s h=>?_⟩
 ·unfold locF at hz
  by_cases hm:s∈f.params++vrL f.body
  ·obtain ⟨j,_,j2,_,j4⟩:=(z0F (f.params++vrL f.body) nilF 0 s).1 hm;rw [j4] at hz;injection hz with hz;omega
  ·rw [(z0F _ _ _ _).2 hm] at hz;cases hz
 ·unfold z0D at h;split at h
  ·rename_i k hk;obtain ⟨x,hx,_⟩:=hg s k hk;refine ⟨k,(max x.2 1).toNat,hgo s k hk,by omega,?_,by omega⟩;simp [z10,hx]
  ·split at h <;> cases h
 ·unfold z0D at h;split at h
  ·rename_i k hk;obtain ⟨x,hx,_⟩:=hg s k hk;exact ⟨k,hgo s k hk,by omega,by simpa [z10] using (List.getElem?_eq_some_iff.1 hx).1⟩
  ·split at h <;> cases h
 ·unfold z0D at h;split at h
  ·split at h <;> cases h
  ·split at h
   ·rename_i k hk;have hm:s∈fl.map (·.name):=q_a (z40 hk);obtain ⟨j,_,j2,_,j4⟩:=(z0F (fl.map (·.name)) (z1k nilF 0 (gl.map (·.1))) 0 s).1 hm;exact ⟨j,j4,by omega,by simpa using j2⟩
   ·cases h
theorem zcc {gl:GlL} {fl:List Fn} (hs:z4n gl fl) (hsh:∀ f∈fl,shTL f.body) {i:Nat} {f:Fn} (hf:fl[i]?=some f) :
  wzB (nF (outF gl fl) (rsFn gl fl f)).locals (z10 gl) fl.length (nF (outF gl fl) (rsFn gl fl f)).body:=by
 have hv:vrL (rsFn gl fl f).body=vrL f.body:=z65 _ _;have e:locF (rsFn gl fl f)=locF f:=by
  unfold locF;rw [hv];rfl
 show wzB ((rsFn gl fl f).params++vrL (rsFn gl fl f).body).length _ _ (nB (locF (rsFn gl fl f)) _ _)
 rw [hv,e];refine zbA (ze8 hs f) f.body (ls:=f.params) (fun s h=>?_) (hs.fs i f hf).2.2.2.2.2.1 (hsh f (q_a hf));obtain ⟨j,_,_,_,j4⟩:=(z0F (f.params++vrL f.body) nilF 0 s).1 h;unfold locF;rw [j4];rfl
end Go.Proofs.YtdflbhofmmlpgaaGreat
namespace Go.Proofs.YtdflbhofmmlpgaaGreat
open Go.RowKit Go.WideMaps
theorem zcd (w:World):(zeroValue 3).run Tryz.prog w=.ok (.int .i64 0) w:=by kernel_rfl
theorem z55:Maps.Keyed Tryz.prog 9:=Maps.string_keyed Tryz.underlying9
def MapZ (w:World) (b k:Nat) (m:NmF):Prop :=
 ∃ D:DataW Unit,w.ownsMap (H:=Unit) Tryz.prog 9 (plainElem Tryz.prog 3) b k D/\Maps.size D=k/\∀ s:Zb,s.size<=maxLen->D.atKey (.string s.data.toList) (.lit (.int .i64 0))=.lit (.int .i64 ((m s).getD 0))/\Maps.has D (.string s.data.toList)=(m s).isSome
section
variable {w w':World} {b k:Nat} {m:NmF}
theorem MapZ.new (w:World):MapZ (w.alloc (.map #[] 0)) w.heap.size 0 nilF :=
 ⟨.map [],World.ownsMap_made _ _ _ _,rfl,fun _ _=>⟨rfl,rfl⟩⟩
theorem MapZ.lt (h:MapZ w b k m):b<w.heap.size:=by
 obtain ⟨D,h,_⟩:=h;exact World.ownsMap.lt h
theorem MapZ.grown (h:MapZ w b k m) {row:Option Nat} (hg:w.grownBy w' row) (hne:some b≠row):MapZ w' b k m:=by
 obtain ⟨D,h,h2⟩:=h;exact ⟨D,World.ownsMap.kept h hg hne,h2⟩
theorem MapZ.kept (h:MapZ w b k m) (hb:w'.heap[b]?=w.heap[b]?):MapZ w' b k m:=by
 obtain ⟨D,⟨es,clock,h0,F,hs,hD⟩,h2⟩:=h;exact ⟨D,⟨es,clock,hb.trans h0,F,hs,hD⟩,h2⟩
theorem MapZ.look (h:MapZ w b k m) (s:Zb) (hs:s.size<=maxLen):(Instr.lookup 97 (.map (some b)) (.string s) false).run Tryz.prog w=.ok (.int .i64 ((m s).getD 0)) w:=by
 obtain ⟨D,h,_,h2⟩:=h;obtain ⟨c,hr,hat,_⟩:=World.ownsMap.lookup_int h z55 Tryz.underlying97 Tryz.underlying3 (zcd w) (keyOf_string_mk Tryz.underlying9 hs);rw [(h2 s hs).1] at hat;injection hat with hat;injection hat with _ hat;rw [hr,hat]
theorem MapZ.lookok (h:MapZ w b k m) (s:Zb) (hs:s.size<=maxLen):(Instr.lookup 97 (.map (some b)) (.string s) true).run Tryz.prog w=.ok (.tuple #[.int .i64 ((m s).getD 0),.bool (m s).isSome]) w:=by
 obtain ⟨D,h,_,h2⟩:=h;obtain ⟨v,ps,hr,hv⟩:=World.ownsMap.look_ok h z55 Tryz.underlying97 (zcd w) (plainElem_int Tryz.underlying3 (a:=0) (by decide)) (keyOf_string_mk Tryz.underlying9 hs);rw [(h2 s hs).1] at hv;obtain ⟨a,rfl,ha,_⟩:=plainElem_int_inv Tryz.underlying3 hv;injection ha with ha _;injection ha with ha;injection ha with _ ha;rw [hr,(h2 s hs).2,ha]
theorem MapZ.put (h:MapZ w b k m) (hk:k<1000000) (s:Zb) (hs:s.size<=maxLen) (v:Nat) (hv:v<1000000) :
  ∃ w',(Instr.mapUpdate 97 (.map (some b)) (.string s) (.int .i64 (v:Int))).run Tryz.prog w=.ok () w'/\MapZ w' b (if (m s).isSome then k else k+1) (m.put s v)/\w.grownBy w' (some b):=by
 obtain ⟨D,h,h1,h2⟩:=h;have hw:(Lit.int .i64 (v:Int)).wf=true:=by
  have h1:IntKind.i64.min=-9223372036854775808:=by decide
  have h2:IntKind.i64.max=9223372036854775807:=by decide
  simp only [Lit.wf,h1,h2,Bool.and_eq_true,decide_eq_true_eq];omega
 obtain ⟨w',hr,h4,h5⟩:=World.ownsMap.update h z55 Tryz.underlying97 (by unfold maxLen; omega) (keyOf_string_mk Tryz.underlying9 hs) (plainElem_int Tryz.underlying3 hw);have hsz:Maps.size (D.put (.string s.data.toList) (.lit (.int .i64 (v:Int))))=if (m s).isSome then k else k+1:=by
  rw [Maps.size_put (World.ownsMap.tidy h z55),(h2 s hs).2,h1]
 refine ⟨w',hr,⟨_,?_,hsz,fun t ht=>?_⟩,h5⟩
 ·obtain ⟨es,clock,g1,g2,g3,g4⟩:=h4;refine ⟨es,clock,g1,g2,?_,g4⟩;rw [<- hsz,g4];simp [Maps.size,length_sorted]
 ·by_cases e:t=s
  ·rw [e,z7k];exact ⟨Maps.atKey_put_same (World.ownsMap.isMap h) (by simp [WideAt.IsKeyLit]) _ _,Maps.has_put_same (World.ownsMap.isMap h) (by simp [WideAt.IsKeyLit]) _⟩
  ·have hne:Lit.string t.data.toList≠Lit.string s.data.toList:=fun e2=>e (z1A (by injection e2))
   rw [z5O e,Maps.atKey_put_other hne,Maps.has_put_other hne];exact h2 t ht
theorem MapZ.len (h:MapZ w b k m) (ty:TypeId):(Builtin.len_ #[97] ty #[.map (some b)]).run Tryz.prog w=.ok (.int .i64 (k:Int)) w:=by
 obtain ⟨D,h,h1,_⟩:=h;rw [World.ownsMap.len h Tryz.underlying97 ty,h1]
end
end Go.Proofs.YtdflbhofmmlpgaaGreat
