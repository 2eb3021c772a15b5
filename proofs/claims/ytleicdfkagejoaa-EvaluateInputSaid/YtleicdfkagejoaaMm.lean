/-
  Mm: Yn, Yp. Part of the proof. No condition.
-/
import Derived.Test.YtleicdfkagejoaaMh
import Derived.Test.YtleicdfkagejoaaMi
import Derived.Test.YtleicdfkagejoaaLe
import Derived.Test.YtleicdfkagejoaaMk
import Derived.Test.YtleicdfkagejoaaKq
import Derived.KernelRfl
import Derived.Test.YtleicdfkagejoaaMl
import Derived.Test.YtleicdfkagejoaaMg
namespace Go.Proofs.Ytleicdfkagejoaa
open Go.RowKit
def z6w (d:Nat) (l:z0g):Option (Except (Nat × Nat) (Gls × List Fn)) :=
 match (if 65536<l.length then (.error (0,5):Except (Nat × Nat) (List Tok)) else match z6B (l.length+1) 1 l with | .error n=>.error (n,6) | .ok ts=>.ok ts) with
 | .error q=>some (.error q)
 | .ok ts =>
  match z1Q (z3z (z5Y d)) (ts.length+1) [] [] ⟨ts,false,0⟩ with
  | none=>none
  | some (gl,fl,s)=>if (z33 s).2=0 then some (.ok (gl,fl)) else some (.error (z33 s))
theorem z7P (d:Nat) (l:z0g):z6w d l=z7a d l:=by
 unfold z6w z7a z2Z
 rw [z3k _ _ _ (Nat.lt_succ_self _)]
 rfl
def txZ:ByteArray:=⟨#[102,117,110,99,32,109,97,105,110,40,41,32,123,32,112,114,105,110,116,32,55,32,47,32,50,59,32,114,101,116,117,114,110,32,48,32,45,32,55,32,37,32,50,59,32,125]⟩
def nZ (n:Int):Ex:=.mk 1 0 n 1 ⟨#[]⟩ []
def exZa:Ex:=.mk 6 6 0 1 ⟨#[]⟩ [nZ 7,nZ 2]
def exZb:Ex:=.mk 6 4 0 1 ⟨#[]⟩ [nZ 0,.mk 6 7 0 1 ⟨#[]⟩ [nZ 7,nZ 2]]
def z5w:List St:=[.mk 7 1 ⟨#[]⟩ [exZa] [] [],.mk 6 1 ⟨#[]⟩ [exZb] [] []]
def mnZ:Fn:=⟨⟨#[109,97,105,110]⟩,1,[],z5w⟩
theorem zcL:z6w 2 txZ.data.toList=some (.ok ([],[mnZ])):=by kernel_rfl
theorem rs_Z:rsFn [] [mnZ] mnZ=mnZ:=by rfl
theorem zeo:zRun (min 100 1099511627776) (min 2 400) ([mnZ].map (nF (outF [] [mnZ]))) (z1m []) []=(((-1:Int),(1:Int),(0:Int)),⟨10,[],[3],[],[]⟩):=by kernel_rfl
theorem zbN:zas mnZ:=by
 refine ⟨by decide,by decide,by decide,?_,?_,by decide,by simp [mnZ,z5w,vrL,vrS],by simp [mnZ,z5w,vrL,vrS]⟩
 ·simp [mnZ,z5w,fwB,fwS]
 ·simp [mnZ,z5w,szB,szS,szL,szX,exZa,exZb,nZ]
  decide
theorem z9u:z5v [] [mnZ]:=by
 refine ⟨by decide,by decide,fun f h=>?_,fun i x h=>by simp at h,fun i f h=>?_,fun i f h=>?_⟩
 ·injection h with h
  subst h
  exact ⟨rfl,rfl⟩
 ·have hi:i=0:=by
   rcases i with _ | i
   ·rfl
   ·simp at h
  subst hi
  injection h with h
  subst h
  exact ⟨rfl,rfl⟩
 ·have hf:f=mnZ:=by
   rcases i with _ | i
   ·injection h with h
    exact h.symm
   ·simp at h
  subst hf
  refine ⟨by decide,by decide,by decide,zbN.fw,by decide,?_,fun k q h=>by simp [mnZ] at h⟩
  simp [mnZ,z5w,okB,okS,okL,okX,okN,exZa,exZb,nZ,fwL,fwX,htL,htX]
theorem wz_Z:∀ (i:Nat) (x:Fz),(([mnZ]).map (nF (outF [] [mnZ])))[i]?=some x→wzB x.locals (z1m []) (([mnZ]).map (nF (outF [] [mnZ]))).length x.body∧x.locals≤1000∧x.params≤1000∧x.body.length≤1000000:=by
 intro i x h
 have hx:x=nF (outF [] [mnZ]) mnZ:=by
  rcases i with _ | i
  ·simp at h
   exact h.symm
  ·simp at h
 subst hx
 refine ⟨?_,by decide,by decide,by decide⟩
 have:=zc7 z9u (fun f hf=>by
  simp at hf
  subst hf
  show shTL z5w
  simp [z5w,shTL,shT,shAL,shA,exZa,exZb,nZ]) (i:=0) (f:=mnZ) rfl
 rw [rs_Z] at this
 exact this
theorem z8I {F:Nat→Prop} {w:World} {D d:Nat} {A:Option Addr} {c:Nat} (h:RowG 4 (MFn D d) F w [mnZ] A c):z0X F w D d [mnZ] A c :=
 ⟨h.1,fun i f hi=>by
  obtain ⟨g,cs,hA,hF,_,hc,pA,pn,pc,bA,bn,bc,rfl,hpn,hbn,hp,hb⟩:=h.2 i f hi
  subst hpn hbn
  have hf:f=mnZ:=by
   rcases i with _ | i
   ·injection hi with hi
    exact hi.symm
   ·simp at hi
  subst hf
  exact ⟨g,pA,pc,bA,bc,hA,hF,hc 0 _ rfl,hc 1 _ rfl,hc 2 _ rfl,hc 3 _ rfl,⟨Nat.zero_le _,fun q x hq=>by simp [mnZ] at hq⟩,hb⟩⟩
set_option maxRecDepth 100000 in
set_option maxHeartbeats 2000000 in
theorem z8f (w:World):Calls Try.prog 4 #[] w fun e w'=>e=.returned (.bool true)∧Below w.heap.size w w':=by
 have HP:=zhi (zcM 2 txZ (.ok ([],[mnZ])) w (by decide) (by rw [← z7P]; exact zcL))
 unfold txZ at HP
 go_enter Try.func4,Try.ntmps4
 go_wp2_with fail
 refine HP.out.mono ?_
 rintro e w1 ⟨D,d,gA,gc,fA,fc,rfl,_,hrow1,hb1⟩
 rw [show ([]:Gls).length=0 from rfl,show [mnZ].length=1 from rfl]
 have hb2:=(Below.refl _ w1).alloc (Nat.le_refl _) (.cells #[.slice gA 0 gc,.slice fA 1 fc] 30)
 have hx2:=heap_alloc_new w1 (.cells #[.slice gA 0 gc,.slice fA 1 fc] 30)
 obtain ⟨a0,a1⟩:=cl2 hx2
 have HR2:=zhi (z5N (F:=fun q=>w.heap.size≤q∧q<w1.heap.size) (D:=D) (d:=d) [] [mnZ] gA 0 gc fA 1 fc (w1.alloc (.cells #[.slice gA 0 gc,.slice fA 1 fc] 30)) rfl rfl ⟨Nat.zero_le _,fun i x h=>by simp at h⟩ (z8I (z0k (z1M D d) (fun _ h=>h) (fun b hb=>hb2.block b hb.2) hrow1)) (fun b hb=>Nat.lt_of_lt_of_le hb.2 hb2.size) z9u)
 have HB2:=zhi (hb1.trans (hb2.mono hb1.size))
 have hs12:=hb1.size
 clear hrow1 hb1 hb2 hx2 HP
 go_wp2_with fail
 refine HR2.out.mono ?_
 rintro e w3 ⟨gB,gc3,fB,fc3,rfl,hG3,hF3,hb3⟩
 rw [show ([]:GlL).length=0 from rfl,show [mnZ].length=1 from rfl]
 rw [show ([mnZ].map (rsFn [] [mnZ]))=[mnZ] from congrArg (fun x=>[x]) rs_Z] at hF3
 have hb4:=(Below.refl _ w3).alloc (Nat.le_refl _) (.cells #[.slice gB 0 gc3,.slice fB 1 fc3] 30)
 have hx4:=heap_alloc_new w3 (.cells #[.slice gB 0 gc3,.slice fB 1 fc3] 30)
 obtain ⟨b0,b1⟩:=cl2 hx4
 have hr4:=zdO [] [mnZ] gB 0 gc3 fB 1 fc3 [] none 0 0 100 2 (w3.alloc (.cells #[.slice gB 0 gc3,.slice fB 1 fc3] 30)) rfl rfl (hG3.keepR (fun _ h=>h) (fun b hb=>hb4.block b hb.2)) (hF3.keepR (fun _ h=>h) (fun b hb=>hb4.block b hb.2)) (fun b hb=>Nat.lt_of_lt_of_le hb.2 hb4.size) (by decide) (by decide) (by decide) (fun x hx=>by simp at hx) (fun m hm=>by simp [z1m] at hm) (fun f hf=>by
  simp at hf
  subst hf
  exact zbN) wz_Z rfl (Nat.le_refl _) (by decide) (fun j u hu=>by simp at hu) (fun ad e=>by cases e)
 rw [zeo] at hr4
 have HR4:=zhi hr4
 have HB4:=zhi ((HB2.out.trans (hb3.mono HB2.out.size)).trans (hb4.mono (HB2.out.trans (hb3.mono HB2.out.size)).size))
 clear hG3 hF3 hb3 hb4 hx4 hr4 HR2 HB2 a0 a1
 go_wp2_with fail
 refine HR4.out.mono ?_
 rintro e w5 ⟨A5,n5,c5,rfl,hn5,_,hrow5,hb5⟩
 obtain ⟨g5,cs5,rfl,_,_,hc5,hcs5⟩:=hrow5.2 0 3 rfl
 change n5=1 at hn5
 subst hn5
 have hx:=hc5 0 (.int .i64 3) (by rw [show cs5=[.int .i64 3] from hcs5]; rfl)
 have hx:w5.cell? ⟨g5,0,none⟩=some (.int .i64 3):=hx
 have hb6:=(Below.refl _ w5).alloc (Nat.le_refl _) (.cells #[.int .i64 1,.int .i64 (-1),.int .i64 0,.slice (some ⟨g5,0,none⟩) 1 c5] 36)
 have hx6:=heap_alloc_new w5 (.cells #[.int .i64 1,.int .i64 (-1),.int .i64 0,.slice (some ⟨g5,0,none⟩) 1 c5] 36)
 have hx':=hold hb6 hx
 obtain ⟨d0,d1⟩:=cl2 hx6
 have d3:=cell_of_row _ _ 3 _ _ _ hx6
 have HB6:=zhi ((HB4.out.trans (hb5.mono HB4.out.size)).trans (hb6.mono (HB4.out.trans (hb5.mono HB4.out.size)).size))
 have hc5':1≤c5:=hrow5.1
 clear hrow5 hb5 hb6 hx6 HR4 HB4 hc5 hcs5 hx b0 b1
 go_wp2_with fail
 go_ret
 exact ⟨rfl,HB6.out⟩
end Go.Proofs.Ytleicdfkagejoaa
namespace Go.Proofs.Ytleicdfkagejoaa
open Go.RowKit
theorem z1O {F:Nat→Prop} {w:World} {xs:List Int} {A:Option Addr} {c:Nat} (h:RowG 1 ZInt F w xs A c):Rd w A (xs.map (Value.int .i64)):=fun j u hu=>by
 rw [List.getElem?_map,Option.map_eq_some_iff] at hu
 obtain ⟨x,hx,rfl⟩:=hu
 obtain ⟨g,cs,hA,_,_,hc,hcs⟩:=h.2 j x hx
 refine ⟨_,hA,?_⟩
 rw [Addr.add_lit,Nat.zero_add]
 have:=hc 0 (.int .i64 x) (by rw [show cs=[.int .i64 x] from hcs]; rfl)
 simpa using this
theorem z4D {k v t:Int} {xs:List Int}:zbd k v t xs k v t xs=true:=by simp [zbd]
structure OcZ (y:Rz) (A:Option Addr) (n c:Nat) (w:World):Prop where
 ln:n=y.2.out.length
 le:n≤4096
 row:RowG 1 ZInt (fun b=>b<w.heap.size) w y.2.out A c
theorem OcZ.below {y:Rz} {A:Option Addr} {n c:Nat} {w w':World} (h:OcZ y A n c w) (hb:Below w.heap.size w w'):OcZ y A n c w' :=
 ⟨h.ln,h.le,z0k z0l (fun _ hb'=>Nat.lt_of_lt_of_le hb' hb.size) (fun b hb'=>hb.block b hb') h.row⟩
theorem OcZ.cap {y:Rz} {A:Option Addr} {n c:Nat} {w:World} (h:OcZ y A n c w):n≤c:=by rw [h.ln]; exact h.row.1
structure MdZ (gl:GlL) (fl:List Fn) (gA:Option Addr) (gc:Nat) (fA:Option Addr) (fc:Nat) (inp:List Int) (iA:Option Addr) (ic B:Nat) (w:World):Prop where
 ok:z5v gl fl
 gg:∀ x∈gl,GG x
 gf:∀ f∈fl,GF 2 f
 g:z0m (fun b=>b<B) w gl gA gc
 f:z0X (fun b=>b<B) w 4 3 (fl.map (rsFn gl fl)) fA fc
 i:Rd w iA (inp.map (Value.int .i64))
 ib:∀ ad,iA=some ad→ad.block<B
 il:inp.length≤ic∧inp.length≤1000000
 b:B≤w.heap.size
theorem MdZ.below {gl:GlL} {fl:List Fn} {gA fA iA:Option Addr} {gc fc ic B:Nat} {inp:List Int} {w w':World} (h:MdZ gl fl gA gc fA fc inp iA ic B w) (hb:Below w.heap.size w w'):MdZ gl fl gA gc fA fc inp iA ic B w':=by
 refine ⟨h.ok,h.gg,h.gf,z39 h.g (fun b hb'=>⟨hb',hb.block b (Nat.lt_of_lt_of_le hb' h.b)⟩),z38 h.f (fun b hb'=>⟨hb',hb.block b (Nat.lt_of_lt_of_le hb' h.b)⟩),fun j u hu=>?_,h.ib,h.il,Nat.le_trans h.b hb.size⟩
 obtain ⟨ad,e,hc⟩:=h.i j u hu
 refine ⟨ad,e,(World.cell?_of_block (a:=ad.add j) (hb.block _ ?_)).trans hc⟩
 rw [z0C]
 exact Nat.lt_of_lt_of_le (h.ib ad e) h.b
def zSrc (s d:Int) (gl:GlL) (fl:List Fn) (inp:List Int):Rz:=zRun s d ((fl.map (rsFn gl fl)).map (nF (outF gl (fl.map (rsFn gl fl))))) (z1m gl) inp
theorem z9R {gl:GlL} {fl:List Fn} {gA fA iA:Option Addr} {gc fc ic B:Nat} {inp:List Int} (sl dl:Int) (gn fn im:Nat) (w:World) (h:MdZ gl fl gA gc fA fc inp iA ic B w) (hgn:gn=gl.length) (hfn:fn=fl.length) (him:im=inp.length) (hs:sl≤100000) (hd:dl≤400) :
  Calls Try.prog 8 #[.agg #[.slice gA gn gc,.slice fA fn fc],.slice iA im ic,.agg #[.int .i64 sl,.int .i64 dl]] w (OutZ (zSrc sl dl gl fl inp) w):=by
 obtain ⟨h1,h2,h3,h4⟩:=zcZ h.ok h.gg h.gf
 have:=zdO (F:=fun b=>b<B) gl (fl.map (rsFn gl fl)) gA gn gc fA fn fc inp iA im ic sl dl w hgn (by rw [List.length_map]; exact hfn) h.g h.f (fun b hb=>Nat.lt_of_lt_of_le hb h.b) (by have:=h.ok.gn; omega) (by rw [List.length_map]; have:=h.ok.fn; omega) (by rw [List.length_map]; have:=h.ok.fn; omega) h1 h2 h3 h4 him (by rw [him]; exact h.il.1) (by rw [him]; exact h.il.2) h.i (fun ad e=>Nat.lt_of_lt_of_le (h.ib ad e) h.b)
 rw [show min sl 1099511627776=sl by omega,show min dl 400=dl by omega] at this
 exact this
end Go.Proofs.Ytleicdfkagejoaa
