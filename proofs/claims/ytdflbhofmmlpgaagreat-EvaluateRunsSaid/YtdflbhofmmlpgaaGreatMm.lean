/-
  Mm: Yn. Part of the proof. No condition.
-/
import Derived.Test.YtdflbhofmmlpgaaGreatMh
import Derived.Test.YtdflbhofmmlpgaaGreatLe
import Derived.Test.YtdflbhofmmlpgaaGreatMk
import Derived.Test.YtdflbhofmmlpgaaGreatKq
set_option maxRecDepth 100000
set_option maxHeartbeats 8000000
namespace Go.Proofs.YtdflbhofmmlpgaaGreat
open Go.RowKit
def z6C (l:z0e):Option (Except (Nat × Nat) (Gls × List Fn)) :=
 match (if 65536<l.length then (.error (0,5):Except (Nat × Nat) (List Tok)) else match z6H (l.length+1) 1 l with | .error n=>.error (n,6) | .ok ts=>.ok ts) with
 | .error q=>some (.error q)
 | .ok ts =>
  match z1E (z4u (z6O z6h)) (ts.length+1) [] [] ⟨ts,false,0⟩ with
  | none=>none
  | some (gl,fl,s)=>if (z2L s).2=0 then some (.ok (gl,fl)) else some (.error (z2L s))
theorem z7Y (l:z0e):z6C l=z7g l:=by
 unfold z6C z7g z3a;rw [z39 _ _ _ (Nat.lt_succ_self _)];rfl
def txZ:Zb:=⟨#[102,117,110,99,32,109,97,105,110,40,41,32,123,32,112,114,105,110,116,32,55,32,47,32,50,59,32,114,101,116,117,114,110,32,48,32,45,32,55,32,37,32,50,59,32,125]⟩
def nZ (n:Int):Ex:=.mk 1 0 n 1 ⟨#[]⟩ []
def exZa:Ex:=.mk 6 6 0 1 ⟨#[]⟩ [nZ 7,nZ 2]
def exZb:Ex:=.mk 6 4 0 1 ⟨#[]⟩ [nZ 0,.mk 6 7 0 1 ⟨#[]⟩ [nZ 7,nZ 2]]
def z5w:List St:=[.mk 7 1 ⟨#[]⟩ [exZa] [] [],.mk 6 1 ⟨#[]⟩ [exZb] [] []]
def mnZ:Fn:=⟨⟨#[109,97,105,110]⟩,1,[],z5w⟩
theorem zcX:z6C txZ.data.toList=some (.ok ([],[mnZ])):=by kernel_rfl
theorem rs_Z:rsFn [] [mnZ] mnZ=mnZ:=by rfl
theorem zeV:zRun (min 100 1099511627776) (min 2 400) ([mnZ].map (nF (outF [] [mnZ]))) (z10 []) []=(((-1:Int),(1:Int),(0:Int)),⟨10,[],[3],[],[]⟩):=by kernel_rfl
theorem zbR:zar mnZ:=by
 refine ⟨by decide,by decide,by decide,?_,?_,by decide,by simp [mnZ,z5w,vrL,vrS],by simp [mnZ,z5w,vrL,vrS]⟩
 ·simp [mnZ,z5w,fwB,fwS]
 ·simp [mnZ,z5w,szB,szS,szL,szX,exZa,exZb,nZ];decide
theorem z9y:z4n [] [mnZ]:=by
 refine ⟨by decide,by decide,fun f h=>?_,fun i x h=>by simp at h,fun i f h=>?_,fun i f h=>?_⟩
 ·injection h with h;subst h;exact ⟨rfl,rfl⟩
 ·have hi:i=0:=by
   rcases i with _ | i
   ·rfl
   ·simp at h
  subst hi;injection h with h;subst h;exact ⟨rfl,rfl⟩
 ·have hf:f=mnZ:=by
   rcases i with _ | i
   ·injection h with h;exact h.symm
   ·simp at h
  subst hf;refine ⟨by decide,by decide,by decide,zbR.fw,by decide,?_,fun k q h=>by simp [mnZ] at h⟩;simp [mnZ,z5w,okB,okS,okL,okX,okN,exZa,exZb,nZ,fwL,fwX,htL,htX]
theorem wz_Z:∀ (i:Nat) (x:Fz),(([mnZ]).map (nF (outF [] [mnZ])))[i]?=some x->wzB x.locals (z10 []) (([mnZ]).map (nF (outF [] [mnZ]))).length x.body/\x.locals<=1000/\x.params<=1000/\x.body.length<=1000000:=by
 intro i x h;have hx:x=nF (outF [] [mnZ]) mnZ:=by
  rcases i with _ | i
  ·simp at h;exact h.symm
  ·simp at h
 subst hx;refine ⟨?_,by decide,by decide,by decide⟩;have:=zcc z9y (fun f hf=>by
  simp at hf;subst hf
  show shTL z5w
  simp [z5w,shTL,shT,shAL,shA,exZa,exZb,nZ]) (i:=0) (f:=mnZ) rfl
 rw [rs_Z] at this;exact this
theorem z8N {F:Nat->Prop} {w:World} {D d:Nat} {A:Option Addr} {c:Nat} (h:RowG 4 (MFn D d) F w [mnZ] A c):z0R F w D d [mnZ] A c :=
 ⟨h.1,fun i f hi=>by
  obtain ⟨g,cs,hA,hF,_,hc,pA,pn,pc,bA,bn,bc,rfl,hpn,hbn,hp,hb⟩:=h.2 i f hi;subst hpn hbn;have hf:f=mnZ:=by
   rcases i with _ | i
   ·injection hi with hi;exact hi.symm
   ·simp at hi
  subst hf;exact ⟨g,pA,pc,bA,bc,hA,hF,hc 0 _ rfl,hc 1 _ rfl,hc 2 _ rfl,hc 3 _ rfl,⟨q_h _,fun q x hq=>by simp [mnZ] at hq⟩,hb⟩⟩
theorem z8p (w:World):Calls Tryz.prog 4 #[] w fun e w'=>e=.returned (.bool true)/\Below w.heap.size w w':=by
 have HP:=zhi (zcY txZ [mnZ] w (by decide) (by simp [mnZ]) (by rw [<- z7Y]; exact zcX));unfold txZ at HP;go_enter Tryz.func4,Tryz.ntmps4;go_wp2_with fail;refine HP.out.mono ?_;rintro e w1 ⟨D,d,gA,gc,fA,fc,rfl,_,hrow1,hb1⟩;rw [show ([]:Gls).length=0 from rfl,show [mnZ].length=1 from rfl];have hb2:=(q_i _ w1).alloc (q_2 _) (.cells #[.slice gA 0 gc,.slice fA 1 fc] 31);have hx2:=q_4 w1 (.cells #[.slice gA 0 gc,.slice fA 1 fc] 31);obtain ⟨a0,a1⟩:=cl2 hx2;have HR2:=zhi (z5Q (F:=fun q=>w.heap.size<=q/\q<w1.heap.size) (D:=D) (d:=d) [] [mnZ] gA 0 gc fA 1 fc (w1.alloc (.cells #[.slice gA 0 gc,.slice fA 1 fc] 31)) rfl rfl ⟨q_h _,fun i x h=>by simp at h⟩ (z8N (z0j (z27 D d) (fun _ h=>h) (fun b hb=>hb2.block b hb.2) hrow1)) (fun b hb=>q_1 hb.2 hb2.size) z9y);have HB2:=zhi (hb1.trans (hb2.mono hb1.size));have hs12:=hb1.size;clear hrow1 hb1 hb2 hx2 HP;go_wp2_with fail;refine HR2.out.mono ?_;rintro e w3 ⟨gB,gc3,fB,fc3,rfl,hG3,hF3,hb3⟩;rw [show ([]:GlL).length=0 from rfl,show [mnZ].length=1 from rfl];rw [show ([mnZ].map (rsFn [] [mnZ]))=[mnZ] from congrArg (fun x=>[x]) rs_Z] at hF3;have hb4:=(q_i _ w3).alloc (q_2 _) (.cells #[.slice gB 0 gc3,.slice fB 1 fc3] 31);have hx4:=q_4 w3 (.cells #[.slice gB 0 gc3,.slice fB 1 fc3] 31);obtain ⟨b0,b1⟩:=cl2 hx4;have hr4:=zed [] [mnZ] gB 0 gc3 fB 1 fc3 [] none 0 0 100 2 (w3.alloc (.cells #[.slice gB 0 gc3,.slice fB 1 fc3] 31)) rfl rfl (hG3.keepR (fun _ h=>h) (fun b hb=>hb4.block b hb.2)) (hF3.keepR (fun _ h=>h) (fun b hb=>hb4.block b hb.2)) (fun b hb=>q_1 hb.2 hb4.size) (by decide) (by decide) (by decide) (fun x hx=>by simp at hx) (fun m hm=>by simp [z10] at hm) (fun f hf=>by
  simp at hf;subst hf;exact zbR) wz_Z rfl (q_2 _) (by decide) (fun j u hu=>by simp at hu) (fun ad e=>by cases e)
 rw [zeV] at hr4;have HR4:=zhi hr4;have HB4:=zhi ((HB2.out.trans (hb3.mono HB2.out.size)).trans (hb4.mono (HB2.out.trans (hb3.mono HB2.out.size)).size));clear hG3 hF3 hb3 hb4 hx4 hr4 HR2 HB2 a0 a1;go_wp2_with fail;refine HR4.out.mono ?_;rintro e w5 ⟨A5,n5,c5,rfl,hn5,_,hrow5,hb5⟩;obtain ⟨g5,cs5,rfl,_,_,hc5,hcs5⟩:=hrow5.2 0 3 rfl
 change n5=1 at hn5
 subst hn5;have hx:=hc5 0 (.int .i64 3) (by rw [show cs5=[.int .i64 3] from hcs5]; rfl);have hx:w5.cell? ⟨g5,0,none⟩=some (.int .i64 3):=hx;have hb6:=(q_i _ w5).alloc (q_2 _) (.cells #[.int .i64 1,.int .i64 (-1),.int .i64 0,.slice (some ⟨g5,0,none⟩) 1 c5] 40);have hx6:=q_4 w5 (.cells #[.int .i64 1,.int .i64 (-1),.int .i64 0,.slice (some ⟨g5,0,none⟩) 1 c5] 40);have hx':=hold hb6 hx;obtain ⟨d0,d1⟩:=cl2 hx6;have d3:=zcr 3 hx6;have HB6:=zhi ((HB4.out.trans (hb5.mono HB4.out.size)).trans (hb6.mono (HB4.out.trans (hb5.mono HB4.out.size)).size));have hc5':1<=c5:=hrow5.1;clear hrow5 hb5 hb6 hx6 HR4 HB4 hc5 hcs5 hx b0 b1;go_wp2_with fail;go_ret;exact ⟨rfl,HB6.out⟩
end Go.Proofs.YtdflbhofmmlpgaaGreat
