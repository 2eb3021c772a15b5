/-
  Mm: Yn, Yp. Walks and laws that the statement's proof is made of. No condition of its own.
-/
import Derived.Test.YtgjlincjlhdbjaaMh
import Derived.Test.YtgjlincjlhdbjaaMi
import Derived.Test.YtgjlincjlhdbjaaLe
import Derived.Test.YtgjlincjlhdbjaaMk
import Derived.Test.YtgjlincjlhdbjaaKq
import Derived.KernelRfl
import Derived.Test.YtgjlincjlhdbjaaMl
import Derived.Test.YtgjlincjlhdbjaaMg
namespace Go.Proofs.Ytgjlincjlhdbjaa
open Go.RowKit
def z6w (d:Nat) (l:z0g):Option (Except (Nat × Nat) (Gls × List Fn)) :=
 match (if 65536<l.length then (.error (0,5):Except (Nat × Nat) (List Tok)) else match z6B (l.length+1) 1 l with | .error n=>.error (n,6) | .ok ts=>.ok ts) with
 | .error q=>some (.error q)
 | .ok ts =>
  match z1P (z3u (z5V d)) (ts.length+1) [] [] ⟨ts,false,0⟩ with
  | none=>none
  | some (gl,fl,s)=>if (z2Z s).2=0 then some (.ok (gl,fl)) else some (.error (z2Z s))
theorem z7O (d:Nat) (l:z0g):z6w d l=z79 d l:=by
 unfold z6w z79 z2W
 rw [z3e _ _ _ (Nat.lt_succ_self _)]
 rfl
def txZ:ByteArray:=⟨#[102,117,110,99,32,109,97,105,110,40,41,32,123,32,112,114,105,110,116,32,55,32,47,32,50,59,32,114,101,116,117,114,110,32,48,32,45,32,55,32,37,32,50,59,32,125]⟩
def nZ (n:Int):Ex:=.mk 1 0 n 1 ⟨#[]⟩ []
def exZa:Ex:=.mk 6 6 0 1 ⟨#[]⟩ [nZ 7,nZ 2]
def exZb:Ex:=.mk 6 4 0 1 ⟨#[]⟩ [nZ 0,.mk 6 7 0 1 ⟨#[]⟩ [nZ 7,nZ 2]]
def z5v:List St:=[.mk 7 1 ⟨#[]⟩ [exZa] [] [],.mk 6 1 ⟨#[]⟩ [exZb] [] []]
def mnZ:Fn:=⟨⟨#[109,97,105,110]⟩,1,[],z5v⟩
theorem zcI:z6w 2 txZ.data.toList=some (.ok ([],[mnZ])):=by kernel_rfl
theorem rs_Z:rsFn [] [mnZ] mnZ=mnZ:=by rfl
theorem zea:zRun (min 100 1099511627776) (min 2 400) ([mnZ].map (nF (outF [] [mnZ]))) (z1m []) []=(((-1:Int),(1:Int),(0:Int)),⟨10,[],[3],[],[]⟩):=by kernel_rfl
theorem zbI:zan mnZ:=by
 refine ⟨by decide,by decide,by decide,?_,?_,by decide,by simp [mnZ,z5v,vrL,vrS],by simp [mnZ,z5v,vrL,vrS]⟩
 ·simp [mnZ,z5v,fwB,fwS]
 ·simp [mnZ,z5v,szB,szS,szL,szX,exZa,exZb,nZ]
  decide
theorem z9s:z5s [] [mnZ]:=by
 refine ⟨by decide,by decide,fun f h=>?_,fun i x h=>by simp at h,fun i f h=>?_,fun i f h=>?_⟩
 ·injection h with h
  subst h
  exact ⟨rfl,rfl⟩
 ·have hi:i=0:=by
   rcases i with _ | i
   ·rfl
   ·simp at h
  subst hi
  injection h with h
  subst h
  exact ⟨rfl,rfl⟩
 ·have hf:f=mnZ:=by
   rcases i with _ | i
   ·injection h with h
    exact h.symm
   ·simp at h
  subst hf
  refine ⟨by decide,by decide,by decide,zbI.fw,by decide,?_,fun k q h=>by simp [mnZ] at h⟩
  simp [mnZ,z5v,okB,okS,okL,okX,okN,exZa,exZb,nZ,fwL,fwX,htL,htX]
theorem wz_Z:∀ (i:Nat) (x:Fz),(([mnZ]).map (nF (outF [] [mnZ])))[i]?=some x→wzB x.locals (z1m []) (([mnZ]).map (nF (outF [] [mnZ]))).length x.body∧x.locals≤1000∧x.params≤1000∧x.body.length≤1000000:=by
 intro i x h
 have hx:x=nF (outF [] [mnZ]) mnZ:=by
  rcases i with _ | i
  ·simp at h
   exact h.symm
  ·simp at h
 subst hx
 refine ⟨?_,by decide,by decide,by decide⟩
 have:=zc1 z9s (fun f hf=>by
  simp at hf
  subst hf
  show shTL z5v
  simp [z5v,shTL,shT,shAL,shA,exZa,exZb,nZ]) (i:=0) (f:=mnZ) rfl
 rw [rs_Z] at this
 exact this
theorem z8I {F:Nat→Prop} {w:World} {D d:Nat} {A:Option Addr} {c:Nat} (h:RowG 4 (MFn D d) F w [mnZ] A c):z0X F w D d [mnZ] A c :=
 ⟨h.1,fun i f hi=>by
  obtain ⟨g,cs,hA,hF,_,hc,pA,pn,pc,bA,bn,bc,rfl,hpn,hbn,hp,hb⟩:=h.2 i f hi
  subst hpn hbn
  have hf:f=mnZ:=by
   rcases i with _ | i
   ·injection hi with hi
    exact hi.symm
   ·simp at hi
  subst hf
  exact ⟨g,pA,pc,bA,bc,hA,hF,hc 0 _ rfl,hc 1 _ rfl,hc 2 _ rfl,hc 3 _ rfl,⟨Nat.zero_le _,fun q x hq=>by simp [mnZ] at hq⟩,hb⟩⟩
set_option maxRecDepth 100000 in
set_option maxHeartbeats 2000000 in
theorem zcd (w:World):Calls Try.prog 5 #[] w fun e w'=>e=.returned (.bool true)∧Below w.heap.size w w':=by
 have HP:=zhi (zcJ 2 txZ (.ok ([],[mnZ])) w (by decide) (by rw [← z7O]; exact zcI))
 unfold txZ at HP
 go_enter Try.func5,Try.ntmps5
 go_wp2_with fail
 refine HP.out.mono ?_
 rintro e w1 ⟨D,d,gA,gc,fA,fc,rfl,_,hrow1,hb1⟩
 rw [show ([]:Gls).length=0 from rfl,show [mnZ].length=1 from rfl]
 have hb2:=(Below.refl _ w1).alloc (Nat.le_refl _) (.cells #[.slice gA 0 gc,.slice fA 1 fc] 30)
 have hx2:=heap_alloc_new w1 (.cells #[.slice gA 0 gc,.slice fA 1 fc] 30)
 obtain ⟨a0,a1⟩:=cl2 hx2
 have HR2:=zhi (z5L (F:=fun q=>w.heap.size≤q∧q<w1.heap.size) (D:=D) (d:=d) [] [mnZ] gA 0 gc fA 1 fc (w1.alloc (.cells #[.slice gA 0 gc,.slice fA 1 fc] 30)) rfl rfl ⟨Nat.zero_le _,fun i x h=>by simp at h⟩ (z8I (z0m (z1M D d) (fun _ h=>h) (fun b hb=>hb2.block b hb.2) hrow1)) (fun b hb=>Nat.lt_of_lt_of_le hb.2 hb2.size) z9s)
 have HB2:=zhi (hb1.trans (hb2.mono hb1.size))
 have hs12:=hb1.size
 clear hrow1 hb1 hb2 hx2 HP
 go_wp2_with fail
 refine HR2.out.mono ?_
 rintro e w3 ⟨gB,gc3,fB,fc3,rfl,hG3,hF3,hb3⟩
 rw [show ([]:GlL).length=0 from rfl,show [mnZ].length=1 from rfl]
 rw [show ([mnZ].map (rsFn [] [mnZ]))=[mnZ] from congrArg (fun x=>[x]) rs_Z] at hF3
 have hb4:=(Below.refl _ w3).alloc (Nat.le_refl _) (.cells #[.slice gB 0 gc3,.slice fB 1 fc3] 30)
 have hx4:=heap_alloc_new w3 (.cells #[.slice gB 0 gc3,.slice fB 1 fc3] 30)
 obtain ⟨b0,b1⟩:=cl2 hx4
 have hr4:=zdK [] [mnZ] gB 0 gc3 fB 1 fc3 [] none 0 0 100 2 (w3.alloc (.cells #[.slice gB 0 gc3,.slice fB 1 fc3] 30)) rfl rfl (hG3.keepR (fun _ h=>h) (fun b hb=>hb4.block b hb.2)) (hF3.keepR (fun _ h=>h) (fun b hb=>hb4.block b hb.2)) (fun b hb=>Nat.lt_of_lt_of_le hb.2 hb4.size) (by decide) (by decide) (by decide) (fun x hx=>by simp at hx) (fun m hm=>by simp [z1m] at hm) (fun f hf=>by
  simp at hf
  subst hf
  exact zbI) wz_Z rfl (Nat.le_refl _) (by decide) (fun j u hu=>by simp at hu) (fun ad e=>by cases e)
 rw [zea] at hr4
 have HR4:=zhi hr4
 have HB4:=zhi ((HB2.out.trans (hb3.mono HB2.out.size)).trans (hb4.mono (HB2.out.trans (hb3.mono HB2.out.size)).size))
 clear hG3 hF3 hb3 hb4 hx4 hr4 HR2 HB2 a0 a1
 go_wp2_with fail
 refine HR4.out.mono ?_
 rintro e w5 ⟨A5,n5,c5,rfl,hn5,_,hrow5,hb5⟩
 obtain ⟨g5,cs5,rfl,_,_,hc5,hcs5⟩:=hrow5.2 0 3 rfl
 change n5=1 at hn5
 subst hn5
 have hx:=hc5 0 (.int .i64 3) (by rw [show cs5=[.int .i64 3] from hcs5]; rfl)
 have hx:w5.cell? ⟨g5,0,none⟩=some (.int .i64 3):=hx
 have hb6:=(Below.refl _ w5).alloc (Nat.le_refl _) (.cells #[.int .i64 1,.int .i64 (-1),.int .i64 0,.slice (some ⟨g5,0,none⟩) 1 c5] 35)
 have hx6:=heap_alloc_new w5 (.cells #[.int .i64 1,.int .i64 (-1),.int .i64 0,.slice (some ⟨g5,0,none⟩) 1 c5] 35)
 have hx':=hold hb6 hx
 obtain ⟨d0,d1⟩:=cl2 hx6
 have d3:=cell_of_row _ _ 3 _ _ _ hx6
 have HB6:=zhi ((HB4.out.trans (hb5.mono HB4.out.size)).trans (hb6.mono (HB4.out.trans (hb5.mono HB4.out.size)).size))
 have hc5':1≤c5:=hrow5.1
 clear hrow5 hb5 hb6 hx6 HR4 HB4 hc5 hcs5 hx b0 b1
 go_wp2_with fail
 go_ret
 exact ⟨rfl,HB6.out⟩
end Go.Proofs.Ytgjlincjlhdbjaa
namespace Go.Proofs.Ytgjlincjlhdbjaa
open Go.RowKit
theorem z2x {F:Nat→Prop} {w:World} {xs:List Int} {A:Option Addr} {c:Nat} (h:RowG 1 ZInt F w xs A c):Rd w A (xs.map (Value.int .i64)):=fun j u hu=>by
 rw [List.getElem?_map,Option.map_eq_some_iff] at hu
 obtain ⟨x,hx,rfl⟩:=hu
 obtain ⟨g,cs,hA,_,_,hc,hcs⟩:=h.2 j x hx
 refine ⟨_,hA,?_⟩
 rw [Addr.add_lit,Nat.zero_add]
 have:=hc 0 (.int .i64 x) (by rw [show cs=[.int .i64 x] from hcs]; rfl)
 simpa using this
theorem zb1 {v t v' t' k':Int} {xs ys:List Int} (h:xs <+: ys):refP 3 v t xs k' v' t' ys=true:=by
 obtain ⟨zs,rfl⟩:=h
 unfold refP
 rw [if_pos rfl]
 simp
theorem z9C {k v t:Int} {xs:List Int}:refP k v t xs k v t xs=true:=by
 unfold refP
 split
 ·simp
 ·simp [z7T]
theorem z7U {k v t:Int} {xs:List Int}:z7T k v t xs k v t xs=true:=by simp [z7T]
structure OcZ (y:Rz) (A:Option Addr) (n c:Nat) (w:World):Prop where
 ln:n=y.2.out.length
 le:n≤4096
 row:RowG 1 ZInt (fun b=>b<w.heap.size) w y.2.out A c
theorem OcZ.below {y:Rz} {A:Option Addr} {n c:Nat} {w w':World} (h:OcZ y A n c w) (hb:Below w.heap.size w w'):OcZ y A n c w' :=
 ⟨h.ln,h.le,z0m z0p (fun _ hb'=>Nat.lt_of_lt_of_le hb' hb.size) (fun b hb'=>hb.block b hb') h.row⟩
theorem OcZ.cap {y:Rz} {A:Option Addr} {n c:Nat} {w:World} (h:OcZ y A n c w):n≤c:=by rw [h.ln]; exact h.row.1
structure MdZ (gl:GlL) (fl:List Fn) (gA:Option Addr) (gc:Nat) (fA:Option Addr) (fc:Nat) (inp:List Int) (iA:Option Addr) (ic B:Nat) (w:World):Prop where
 ok:z5s gl fl
 gg:∀ x∈gl,GG x
 gf:∀ f∈fl,GF 2 f
 g:z0k (fun b=>b<B) w gl gA gc
 f:z0X (fun b=>b<B) w 4 3 (fl.map (rsFn gl fl)) fA fc
 i:Rd w iA (inp.map (Value.int .i64))
 ib:∀ ad,iA=some ad→ad.block<B
 il:inp.length≤ic∧inp.length≤1000000
 b:B≤w.heap.size
theorem MdZ.below {gl:GlL} {fl:List Fn} {gA fA iA:Option Addr} {gc fc ic B:Nat} {inp:List Int} {w w':World} (h:MdZ gl fl gA gc fA fc inp iA ic B w) (hb:Below w.heap.size w w'):MdZ gl fl gA gc fA fc inp iA ic B w':=by
 refine ⟨h.ok,h.gg,h.gf,z3L h.g (fun b hb'=>⟨hb',hb.block b (Nat.lt_of_lt_of_le hb' h.b)⟩),z3K h.f (fun b hb'=>⟨hb',hb.block b (Nat.lt_of_lt_of_le hb' h.b)⟩),fun j u hu=>?_,h.ib,h.il,Nat.le_trans h.b hb.size⟩
 obtain ⟨ad,e,hc⟩:=h.i j u hu
 refine ⟨ad,e,(World.cell?_of_block (a:=ad.add j) (hb.block _ ?_)).trans hc⟩
 rw [z0D]
 exact Nat.lt_of_lt_of_le (h.ib ad e) h.b
def zSrc (s d:Int) (gl:GlL) (fl:List Fn) (inp:List Int):Rz:=zRun s d ((fl.map (rsFn gl fl)).map (nF (outF gl (fl.map (rsFn gl fl))))) (z1m gl) inp
theorem zdJ {gl:GlL} {fl:List Fn} {gA fA iA:Option Addr} {gc fc ic B:Nat} {inp:List Int} (sl dl:Int) (gn fn im:Nat) (w:World) (h:MdZ gl fl gA gc fA fc inp iA ic B w) (hgn:gn=gl.length) (hfn:fn=fl.length) (him:im=inp.length) (hs:sl≤100000) (hd:dl≤400) :
  Calls Try.prog 9 #[.agg #[.slice gA gn gc,.slice fA fn fc],.slice iA im ic,.agg #[.int .i64 sl,.int .i64 dl]] w (OutZ (zSrc sl dl gl fl inp) w):=by
 obtain ⟨h1,h2,h3,h4⟩:=zcW h.ok h.gg h.gf
 have:=zdK (F:=fun b=>b<B) gl (fl.map (rsFn gl fl)) gA gn gc fA fn fc inp iA im ic sl dl w hgn (by rw [List.length_map]; exact hfn) h.g h.f (fun b hb=>Nat.lt_of_lt_of_le hb h.b) (by have:=h.ok.gn; omega) (by rw [List.length_map]; have:=h.ok.fn; omega) (by rw [List.length_map]; have:=h.ok.fn; omega) h1 h2 h3 h4 him (by rw [him]; exact h.il.1) (by rw [him]; exact h.il.2) h.i (fun ad e=>Nat.lt_of_lt_of_le (h.ib ad e) h.b)
 rw [show min sl 1099511627776=sl by omega,show min dl 400=dl by omega] at this
 exact this
set_option maxRecDepth 100000 in
set_option maxHeartbeats 4000000 in
theorem limits_any (A0:Option Addr) (codes:List Nat) (m c0:Nat) (st mo dp de:Int) (w:World) (hm:codes.length=m) (hmc:m≤c0) (hr:Rd w A0 (codes.map bv)) (hcs:∀ x∈codes,x<256) (h1:0≤st∧st<65536) (h2:0≤mo∧mo<65536) (h3:0≤dp∧dp<256) (h4:0≤de∧de<256) :
  Calls Try.prog 3 #[.slice A0 m c0,.int .u16 st,.int .u16 mo,.int .u8 dp,.int .u8 de] w fun e w'=>e=.returned (.bool true)∧Below w.heap.size w w':=by
 have ha:=zhi (zcd w)
 have Hm:=zhi hm
 have Hr:=zhi hr
 have Hcs:=zhi hcs
 clear hm hr hcs
 go_enter Try.func3,Try.ntmps3
 go_wp2_with fail
 refine ha.out.mono ?_
 rintro e w1 ⟨rfl,hb1⟩
 have hn:=zhi (zcE A0 codes m c0 400 w1 Hm.out hmc (Hr.out.below hb1) (by decide))
 have Hb1:=zhi hb1
 clear ha hb1 Hr Hm
 go_wp2_with fail
 refine hn.out.mono ?_
 rintro e w2 ⟨g,cs,rfl,hg,hlen,rfl,hc2,hb2⟩
 have Hcl:Hid (∀ x∈codes.take 400,x<256):=zhi (fun x hx=>Hcs.out x (List.mem_of_mem_take hx))
 generalize codes.take 400=cs at *
 have hgw:w.heap.size≤g:=Nat.le_trans Hb1.out.size hg
 have hg2:g<w2.heap.size:=z28 hc2
 have hx:=zhi (z5M g cs w2 ⟨0,hc2⟩ (by omega) Hcl.out)
 have Hb2:=zhi (z0c Hb1.out hb2)
 have Hlen:=zhi hlen
 clear hn hb2 hc2 Hcs Hb1 hlen
 go_wp2_with fail
 refine hx.out.mono ?_
 rintro e w3 ⟨gl,fl,gA,gc,fA,fc,rfl,hG,hF,hok,hgg,hgf,hco,hgr⟩
 have hs3:=hgr.size
 have HI:=zhi (z95 g cs w3 hco (by have:=Hlen.out; omega) Hcl.out)
 have HP:=zhi (And.intro hok (And.intro hgg hgf))
 have HG3:=zhi hG
 have HF3:=zhi hF
 have Hb3:=zhi (Hb2.out.trans (z07 hgr (fun b e=>by injection e with e; omega) Hb2.out.size))
 obtain ⟨gn,hgn⟩:∃ n,n=gl.length:=⟨_,rfl⟩
 obtain ⟨fn,hfn⟩:∃ n,n=fl.length:=⟨_,rfl⟩
 rw [← hgn,← hfn]
 have Hgn:=zhi hgn
 have Hfn:=zhi hfn
 clear hx hok hgg hgf hG hF hco hgr hgn hfn Hb2
 go_wp2_with fail
 refine HI.out.mono ?_
 rintro e w4 ⟨inp,iA,im,ic,L,rfl,him,hi5,_,hgri,_,hgr⟩
 have hs4:=hgr.size
 have hb5:=(Below.refl _ w4).alloc (Nat.le_refl _) (.cells #[.slice gA gn gc,.slice fA fn fc] 30)
 have hx5:=heap_alloc_new w4 (.cells #[.slice gA gn gc,.slice fA fn fc] 30)
 have hmd4:MdZ gl fl gA gc fA fc inp iA ic w4.heap.size w4:=by
  have hrow:=(hgri.row z0p)
  refine ⟨HP.out.1,HP.out.2.1,HP.out.2.2,z3L HG3.out (fun b hb=>⟨by omega,hgr.block b hb.2 (fun e=>by injection e with e; omega)⟩),z3K HF3.out (fun b hb=>⟨by omega,hgr.block b hb.2 (fun e=>by injection e with e; omega)⟩),z2x hrow.2,fun ad e=>?_,⟨hrow.2.1,by omega⟩,Nat.le_refl _⟩
  exact (hgri.own.lt ad.block (by rw [e]; rfl)).2
 have HM:=zhi (hmd4.below hb5)
 have HX5:=zhi hx5
 have Hb5:=zhi ((Hb3.out.trans (z07 hgr (fun b e=>by injection e with e; omega) Hb3.out.size)).trans (hb5.mono (by have:=Hb3.out.size; omega)))
 have Him:=zhi him
 obtain ⟨q0,q1⟩:=cl2 hx5
 obtain ⟨s1,hs1⟩:∃ s1,s1=st % 2000:=⟨_,rfl⟩
 obtain ⟨s2,hs2⟩:∃ s2,s2=mo % 2000:=⟨_,rfl⟩
 obtain ⟨d1,hd1⟩:∃ d1,d1=dp % 12:=⟨_,rfl⟩
 obtain ⟨d2,hd2⟩:∃ d2,d2=de % 12:=⟨_,rfl⟩
 have hlim:(zSrc s1 d1 gl fl inp).2.st≤s1∧(zSrc s1 d1 gl fl inp).2.st≤(zSrc (s1+s2) (d1+d2) gl fl inp).2.st∧((zSrc s1 d1 gl fl inp).1.2.1≠3→zSrc s1 d1 gl fl inp=zSrc (s1+s2) (d1+d2) gl fl inp)∧((zSrc s1 d1 gl fl inp).1.2.1=3→(zSrc s1 d1 gl fl inp).2.out <+: (zSrc (s1+s2) (d1+d2) gl fl inp).2.out):=z7S (by omega) (by omega) (by omega)
 have HL:=zhi hlim
 have Hs1:=zhi hs1
 have Hs2:=zhi hs2
 have Hd1:=zhi hd1
 have Hd2:=zhi hd2
 have hsd:(0≤s1∧s1<2000)∧(0≤s2∧s2<2000)∧(0≤d1∧d1<12)∧(0≤d2∧d2<12):=by omega
 have HR:Hid (∀ (s d:Int) (W:World),Below (w4.alloc (.cells #[.slice gA gn gc,.slice fA fn fc] 30)).heap.size (w4.alloc (.cells #[.slice gA gn gc,.slice fA fn fc] 30)) W→s≤100000→d≤400→Calls Try.prog 9 #[.agg #[.slice gA gn gc,.slice fA fn fc],.slice iA im ic,.agg #[.int .i64 s,.int .i64 d]] W (OutZ (zSrc s d gl fl inp) W)):=zhi (fun s d W hW hs hd=>zdJ s d gn fn im W (HM.out.below hW) Hgn.out Hfn.out Him.out hs hd)
 clear HI HG3 HF3 HP hgri hgr him hb5 hx5 hmd4 Hb3 hi5 hlim hs1 hs2 hd1 hd2
 go_wp2_with fail
 obtain ⟨W5,hW5⟩:∃ W5,W5=w4.alloc (.cells #[.slice gA gn gc,.slice fA fn fc] 30):=⟨_,rfl⟩
 rw [← hW5] at HM HX5 Hb5 HR q0 q1 ⊢
 have hlt5:=(Array.getElem?_eq_some_iff.1 HX5.out).1
 clear hW5
 rw [← Hs1.out,← Hd1.out]
 refine (HR.out s1 d1 W5 (Below.refl _ _) (by omega) (by omega)).mono ?_
 obtain ⟨Z1,hZ1⟩:∃ Z,Z=zSrc s1 d1 gl fl inp:=⟨_,rfl⟩
 rw [← hZ1] at HL ⊢
 clear hZ1
 obtain ⟨⟨v1,k1,t1⟩,⟨n1,ip1,o1,g1,l1⟩⟩:=Z1
 rintro e w6 ⟨oA,on,oc,rfl,hon,hol,horow,hb6⟩
 dsimp only at hon hol horow ⊢
 have hb7:=(Below.refl _ w6).alloc (Nat.le_refl _) (.cells #[.int .i64 k1,.int .i64 v1,.int .i64 t1,.slice oA on oc] 35)
 have hx7:=heap_alloc_new w6 (.cells #[.int .i64 k1,.int .i64 v1,.int .i64 t1,.slice oA on oc] 35)
 have hb57:=z0c hb6 hb7
 have Q7:=zhi (hb57.block _ hlt5 |>.trans HX5.out)
 obtain ⟨q0,q1⟩:=cl2 Q7.out
 have ho7:OcZ ((v1,k1,t1),⟨n1,ip1,o1,g1,l1⟩) oA on oc w6:=⟨hon,by rw [hon]; exact hol,z0m z0p (fun _ hb=>hb.2) (fun _ _=>rfl) horow⟩
 have HO7:=zhi (ho7.below hb7)
 have HX7:=zhi hx7
 have HB7:=zhi hb57
 clear hb6 hb7 hx7 hb57 ho7 horow hon hol HM
 go_wp2_with fail
 obtain ⟨W7,hW7⟩:∃ W7,W7=w6.alloc (.cells #[.int .i64 k1,.int .i64 v1,.int .i64 t1,.slice oA on oc] 35):=⟨_,rfl⟩
 rw [← hW7] at HO7 HX7 HB7 Q7 q0 q1 ⊢
 have hlt7:=(Array.getElem?_eq_some_iff.1 HX7.out).1
 clear hW7
 rw [← Hs1.out,← Hd1.out,← Hs2.out,← Hd2.out]
 refine (HR.out (s1+s2) (d1+d2) W7 HB7.out (by omega) (by omega)).mono ?_
 obtain ⟨Z2,hZ2⟩:∃ Z,Z=zSrc (s1+s2) (d1+d2) gl fl inp:=⟨_,rfl⟩
 rw [← hZ2] at HL ⊢
 clear hZ2
 obtain ⟨⟨v2,k2,t2⟩,⟨n2,ip2,o2,g2,l2⟩⟩:=Z2
 rintro e w8 ⟨pA,pn,pc,rfl,hpn,hpl,hprow,hb8⟩
 dsimp only at hpn hpl hprow ⊢
 have hb9:=(Below.refl _ w8).alloc (Nat.le_refl _) (.cells #[.int .i64 k2,.int .i64 v2,.int .i64 t2,.slice pA pn pc] 35)
 have hx9:=heap_alloc_new w8 (.cells #[.int .i64 k2,.int .i64 v2,.int .i64 t2,.slice pA pn pc] 35)
 have hb79:=z0c hb8 hb9
 have Q9:=zhi (hb79.block _ hlt7 |>.trans HX7.out)
 have ho9:OcZ ((v2,k2,t2),⟨n2,ip2,o2,g2,l2⟩) pA pn pc w8:=⟨hpn,by rw [hpn]; exact hpl,z0m z0p (fun _ hb=>hb.2) (fun _ _=>rfl) hprow⟩
 have HP9:=zhi (ho9.below hb9)
 have HO9:=zhi (HO7.out.below hb79)
 have HB9:=zhi (z0c (z0c Hb5.out HB7.out) hb79)
 obtain ⟨r0,r1,r2,r3⟩:=cl4 Q9.out
 obtain ⟨u0,u1,u2,u3⟩:=cl4 hx9
 clear hb8 hb9 hx9 hb79 ho9 hprow hpn hpl HR q0 q1 Q7 HO7 HX7 HB7 Hb5 HX5 Q9
 obtain ⟨W9,hW9⟩:∃ W9,W9=w8.alloc (.cells #[.int .i64 k2,.int .i64 v2,.int .i64 t2,.slice pA pn pc] 35):=⟨_,rfl⟩
 have hlm:=HL.out
 dsimp only at hlm
 have i1:(st % 2000<n1)=False:=by
  rw [← Hs1.out]
  simp
  omega
 have i2:(n2<n1)=False:=by simp; omega
 have HE:Hid ((k1≠3→v1=v2∧k1=k2∧t1=t2∧n1=n2∧o1=o2)∧(k1=3→o1 <+: o2)):=zhi ⟨fun h=>by
  have:=hlm.2.2.1 h
  injection this with e1 e2
  injection e1 with e3 e4
  injection e4 with e5 e6
  injection e2 with e7 e8 e9
  exact ⟨e3,e5,e6,e7,e9⟩,hlm.2.2.2⟩
 clear hlm HL
 rw [← hW9] at HP9 HO9 HB9 r0 r1 r2 r3 u0 u1 u2 u3
 have HRf:Hid (Calls Try.prog 10 #[.agg #[.int .i64 k1,.int .i64 v1,.int .i64 t1,.slice oA on oc],.agg #[.int .i64 k2,.int .i64 v2,.int .i64 t2,.slice pA pn pc]] W9 (z67 true W9)):=zhi (z9D k1 v1 t1 k2 v2 t2 W9 HO9.out.ln.symm HP9.out.ln.symm (z2x HO9.out.row) (z2x HP9.out.row) (by have:=HO9.out.le; omega) (by have:=HP9.out.le; omega) HO9.out.cap HP9.out.cap (by
  by_cases h:k1=3
  ·subst h
   exact (zb1 (HE.out.2 rfl)).symm
  ·obtain ⟨rfl,rfl,rfl,_,rfl⟩:=HE.out.1 h
   exact z9C.symm))
 go_upto_region 7 with fail
 rw [← hW9]
 clear hW9
 go_wp2_with fail
 refine HRf.out.mono ?_
 rintro e w10 ⟨rfl,hb10⟩
 have s0:=hold hb10 r0
 have s1':=hold hb10 r1
 have s2':=hold hb10 r2
 have s3:=hold hb10 r3
 have x0:=hold hb10 u0
 have x1:=hold hb10 u1
 have x2:=hold hb10 u2
 have x3:=hold hb10 u3
 have HO10:=zhi (HO9.out.below hb10)
 have HP10:=zhi (HP9.out.below hb10)
 have HB10:=zhi (z0c HB9.out hb10)
 clear hb10 r0 r1 r2 r3 u0 u1 u2 u3 HRf HO9 HP9 HB9
 by_cases h3:k1=3
 ·subst h3
  have hle:on≤pn:=by
   have:=List.IsPrefix.length_le (HE.out.2 rfl)
   have h1:=HO10.out.ln
   have h2:=HP10.out.ln
   dsimp only at h1 h2
   omega
  go_wp2_with fail
  go_ret
  exact ⟨rfl,HB10.out⟩
 ·have e3:=neb h3
  obtain ⟨rfl,rfl,rfl,rfl,rfl⟩:=HE.out.1 h3
  have HS:=zhi (zbT k1 v1 t1 k1 v1 t1 w10 HO10.out.ln.symm HP10.out.ln.symm (z2x HO10.out.row) (z2x HP10.out.row) (by have:=HO10.out.le; omega) (by have:=HP10.out.le; omega) z7U.symm (b:=true) (c:=oc) (d:=pc))
  clear HE h3
  go_wp2_with fail
  refine HS.out.mono ?_
  rintro e w11 ⟨rfl,hb11⟩
  have HB11:=zhi (z0c HB10.out hb11)
  clear hb11
  go_wp2_with fail
  go_ret
  exact ⟨rfl,HB11.out⟩
end Go.Proofs.Ytgjlincjlhdbjaa
