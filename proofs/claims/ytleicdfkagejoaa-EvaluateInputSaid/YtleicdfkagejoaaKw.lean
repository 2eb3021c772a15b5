/-
  Kw: Gen16, Gen17. Walks and laws that the statement's proof is made of. No condition of its own.
-/
import Derived.Test.YtleicdfkagejoaaKv
import Derived.Deep.RegionLaw
namespace Go.Proofs.Ytleicdfkagejoaa
open Go.RowKit
structure R9 (W:World) (m g:Nat) (l:List Nat) (E:Env) (bud:Int) (base q8:Nat) (s:ByteArray) (w5 w':World):Prop where
 ss:SS W m g l E bud base w'
 row8:w'.heap[q8]?=some (.cells #[.int .i64 13,.int .i64 0,.int .i64 0,.int .i64 0,.string s,.slice none 0 0] 112 (0,0))
 lb5:lb w' m=lb w5 m
 sz:w5.heap.size≤w'.heap.size
 low:∀ b,lb w5 m=some b→b<w5.heap.size
 q8W:W.heap.size≤q8
 q85:q8<w5.heap.size
 lb8:lb w5 m≠some q8
theorem R9.below {W w5 w' w2:World} {m g base q8:Nat} {l:List Nat} {E:Env} {bud:Int} {s:ByteArray} (h:R9 W m g l E bud base q8 s w5 w') (hb:Below w'.heap.size w' w2):R9 W m g l E bud base q8 s w5 w2 :=
 ⟨(h.ss.below hb).1,(hb.block _ (Array.getElem?_eq_some_iff.1 h.row8).1).trans h.row8,(z2d (World.cell?_of_block (hb.block m (Nat.lt_of_lt_of_le h.ss.mW h.ss.chg.size)))).trans h.lb5,Nat.le_trans h.sz hb.size,h.low,h.q8W,h.q85,h.lb8⟩
theorem R9.alloc {W w5 w':World} {m g base q8:Nat} {l:List Nat} {E:Env} {bud:Int} {s:ByteArray} (h:R9 W m g l E bud base q8 s w5 w') (o:Obj):R9 W m g l E bud base q8 s w5 (w'.alloc o):=h.below ((Below.refl _ _).alloc (Nat.le_refl _) o)
theorem R9.drew {W w5 w':World} {m g base q8:Nat} {l:List Nat} {E:Env} {bud:Int} {s:ByteArray} (h:R9 W m g l E bud base q8 s w5 w'):R9 W m g l E bud base q8 s w5 w'.drew:=h.below (Below.refl _ _).drew
theorem R9.grown {W w5 w' w2:World} {m g base q8:Nat} {l:List Nat} {E:Env} {bud:Int} {s:ByteArray} (h:R9 W m g l E bud base q8 s w5 w') (h2:GS w2 m g l E bud) (hg:w'.grownBy w2 (some g)):R9 W m g l E bud base q8 s w5 w2:=by
 have hm:=Nat.lt_of_lt_of_le h.ss.mW h.ss.chg.size
 have hq:=h.q8W
 have hgW:=h.ss.gW
 exact ⟨(h.ss.grown h2 hg).1,z04 hg (by omega) h.row8,(z2d (World.cell?_of_block (hg.block m hm (fun e=>h.ss.ls.gs.ne (by injection e))))).trans h.lb5,Nat.le_trans h.sz hg.size,h.low,h.q8W,h.q85,h.lb8⟩
def N9 (W:World) (m g:Nat) (l:List Nat) (E:Env) (bud:Int) (base q8:Nat) (s:ByteArray) (w5:World) (n:Nat) (wn:World) (e:Ending) (w2:World):Prop :=
 ∃ r:Nat,e=.returned (.int .i64 (r:Int))∧r<n∧R9 W m g l E bud base q8 s w5 w2∧wn.grownBy w2 (some g)
theorem zcP {W w5 wn:World} {m g base q8:Nat} {l:List Nat} {E:Env} {bud:Int} {s:ByteArray} (h:R9 W m g l E bud base q8 s w5 wn) (n:Nat) (z:Int) (hz:z=(n:Int)) (hn:1≤n) (hn2:n≤1000000000) :
  Calls Try.prog 14 #[.pointer (some ⟨g,0,none⟩),.int .i64 z] wn (N9 W m g l E bud base q8 s w5 n wn) :=
 (z0p n z h.ss.ls.gs hz hn2).mono fun _ _ ⟨r,he,h1,_,h3,h4⟩=>⟨r,he,h1 hn,h.grown h3 h4,h4⟩
theorem z8x {G:Nat→Prop} {w':World} {b:Nat} {o a:Int} {s:ByteArray} {t:TypeId} (hb:G b) (h:w'.heap[b]?=some (.cells #[.int .i64 13,.int .i64 0,.int .i64 0,.int .i64 0,.string s,.slice none 0 0,.int .i64 1,.int .i64 0,.int .i64 a,.int .i64 0,.string ⟨#[]⟩,.slice none 0 0] t (0,0))) :
  ExV G w' 3 (.mk 6 o 0 0 ⟨#[]⟩ [.mk 13 0 0 0 s [],.mk 1 0 a 0 ⟨#[]⟩ []]) (.agg #[.int .i64 6,.int .i64 o,.int .i64 0,.int .i64 0,.string ⟨#[]⟩,.slice (some ⟨b,0,none⟩) 2 2]) :=
 ⟨some ⟨b,0,none⟩,2,rfl,z2h (d:=2) z2c z2c hb h⟩
theorem zbO {E:Env} {o a:Int} {s:ByteArray} (ho:3≤o∧o≤11) (ha:0≤a∧a<9223372036854775808) (hs:z0E s∧z2N E s):GX E 2 (.mk 6 o 0 0 ⟨#[]⟩ [.mk 13 0 0 0 s [],.mk 1 0 a 0 ⟨#[]⟩ []]) :=
 ⟨⟨⟨rfl,by unfold CnOk; simp⟩,by omega,ho.2,by decide,by decide,by decide,.inr ⟨by
  intro x hx
  simp only [List.mem_cons,List.not_mem_nil,or_false] at hx
  rcases hx with rfl | rfl
  ·exact z6j (by decide) (by decide) hs.1.1 (.inr (.inl ⟨rfl,hs.1⟩))
  ·exact z6j (by decide) ha (by decide) (.inr (.inr (.inl rfl))),.inr (.inl ⟨rfl,ho.1,rfl⟩)⟩⟩,z2O (z0L (by decide)) (by
  intro x hx
  simp only [List.mem_cons,List.not_mem_nil,or_false] at hx
  rcases hx with rfl | rfl
  ·exact z2O ⟨fun _=>hs.2,by simp,by simp,by simp⟩ (by simp)
  ·exact z2O (z0L (by decide)) (by simp))⟩
def zat (W:World) (m g:Nat) (l:List Nat) (E:Env) (bud:Int) (base q8:Nat) (s:ByteArray) (v:Value) (wd:World):Prop :=
 ∃ q b cnd,v=.pointer (some ⟨q,0,none⟩)∧IfSt W m g l E bud base q #[.int .i64 5,.int .i64 0,.string ⟨#[]⟩,.slice (some ⟨b,0,none⟩) 1 1,.slice none 0 0,.slice none 0 0] wd∧RowE (Mad m W q wd) wd 3 [cnd] (some ⟨b,0,none⟩) 1∧GX E 2 cnd ∧
  wd.heap[q8]?=some (.cells #[.int .i64 13,.int .i64 0,.int .i64 0,.int .i64 0,.string s,.slice none 0 0] 112 (0,0))∧q8≠q∧W.heap.size≤q8∧lb wd m≠some q8
theorem z4z {W w5 w4 w9:World} {m g base q8 q a2 b:Nat} {l:List Nat} {E:Env} {bud:Int} {s:ByteArray} {a:Int} {t2 t3:TypeId} (h:R9 W m g l E bud base q8 s w5 w4) (hs:z0E s∧z2N E s) (ha:0≤a∧a<9223372036854775808)
  (h2:w4.heap[a2]?=some (.cells #[.int .i64 13,.int .i64 0,.int .i64 0,.int .i64 0,.string s,.slice none 0 0,.int .i64 1,.int .i64 0,.int .i64 a,.int .i64 0,.string ⟨#[]⟩,.slice none 0 0] t2 (0,0))) (ha2:w5.heap.size≤a2)
  (h3:w4.heap[b]?=some (.cells #[.int .i64 6,.int .i64 8,.int .i64 0,.int .i64 0,.string ⟨#[]⟩,.slice (some ⟨a2,0,none⟩) 2 2] t3 (0,0))) (hb:w5.heap.size≤b)
  (h2q:a2≠q) (h3q:b≠q) (hg6:w4.grownBy w9 (some q)) (hr6:w9.heap[q]?=some (.cells #[.int .i64 5,.int .i64 0,.string ⟨#[]⟩,.slice (some ⟨b,0,none⟩) 1 1,.slice none 0 0,.slice none 0 0] 109 (0,0))) (hq5:w5.heap.size≤q):zat W m g l E bud base q8 s (.pointer (some ⟨q,0,none⟩)) w9:=by
 have hq85:=h.q85
 have hq8W:=h.q8W
 have hlow:=h.low
 have hsz:=h.sz
 have hmW:=h.ss.mW
 have hWw:=h.ss.chg.size
 have hbW:=h.ss.bw
 have hgt:=hg6.size
 have hl9:lb w9 m=lb w5 m:=(z2d (World.cell?_of_block (hg6.block m (by omega) (fun e=>absurd (show m=q by injection e) (by omega))))).trans h.lb5
 have hne:∀ b,w5.heap.size≤b→lb w9 m≠some b:=fun b hb e=>by rw [hl9] at e; have:=hlow b e; omega
 have hne4:∀ b,w5.heap.size≤b→lb w4 m≠some b:=fun b hb e=>by rw [h.lb5] at e; have:=hlow b e; omega
 have k2:=z04 hg6 h2q h2
 have k3:=z04 hg6 h3q h3
 have l2:=(Array.getElem?_eq_some_iff.1 k2).1
 have l3:=(Array.getElem?_eq_some_iff.1 k3).1
 have hW5:W.heap.size≤w5.heap.size:=by omega
 have hss:SS W m g l E bud base w9:=⟨h.ss.ls.far hg6 (fun c e=>(show q=c by injection e) ▸ ⟨by omega,hne4 q hq5⟩),h.ss.chg.far hg6 (fun c e=>(show q=c by injection e) ▸ Nat.le_trans hW5 hq5) hmW,hbW⟩
 refine ⟨q,b,_,rfl,⟨hss,hr6,Nat.le_trans hW5 hq5,hne q hq5⟩,z2A (z8x (o:=8) (a:=a) (s:=s) (G:=Mad m W q w9) ⟨⟨by omega,l2,hne a2 ha2⟩,h2q⟩ k2) (fun _ h=>h) (fun _ _=>rfl) ⟨⟨by omega,l3,hne b hb⟩,h3q⟩ k3,zbO (by omega) ha hs,z04 hg6 (by omega) h.row8,by omega,hq8W,by rw [hl9]; exact h.lb8⟩
theorem zaR {W w5 w4:World} {m g base q8 q a2 b:Nat} {l:List Nat} {E:Env} {bud:Int} {s:ByteArray} {a:Int} {t2 t3:TypeId} (h:R9 W m g l E bud base q8 s w5 w4) (hs:z0E s∧z2N E s) (ha:0≤a∧a<9223372036854775808)
  (h2:w4.heap[a2]?=some (.cells #[.int .i64 13,.int .i64 0,.int .i64 0,.int .i64 0,.string s,.slice none 0 0,.int .i64 1,.int .i64 0,.int .i64 a,.int .i64 0,.string ⟨#[]⟩,.slice none 0 0] t2 (0,0))) (ha2:w5.heap.size≤a2)
  (h3:w4.heap[b]?=some (.cells #[.int .i64 6,.int .i64 8,.int .i64 0,.int .i64 0,.string ⟨#[]⟩,.slice (some ⟨a2,0,none⟩) 2 2] t3 (0,0))) (hb:w5.heap.size≤b)
  (hq:w4.heap[q]?=some (.cells #[.int .i64 0,.int .i64 0,.string ⟨#[]⟩,.slice none 0 0,.slice none 0 0,.slice none 0 0] 109 (0,0))) (hq5:w5.heap.size≤q) :
  zat W m g l E bud base q8 s (.pointer (some ⟨q,0,none⟩)) ((((((w4.setCell ⟨q,0,none⟩ (.int .i64 5)).setCell ⟨q,1,none⟩ (.int .i64 0)).setCell ⟨q,2,none⟩ (.string ⟨#[]⟩)).setCell ⟨q,3,none⟩ (.slice (some ⟨b,0,none⟩) 1 1)).setCell ⟨q,4,none⟩ (.slice none 0 0)).setCell ⟨q,5,none⟩ (.slice none 0 0)) :=
 have h6:=z1h (.int .i64 5) (.int .i64 0) (.string ⟨#[]⟩) (.slice (some ⟨b,0,none⟩) 1 1) (.slice none 0 0) (.slice none 0 0) hq
 z4z h hs ha h2 ha2 h3 hb (fun e=>by rw [e,hq] at h2; simp at h2) (fun e=>by rw [e,hq] at h3; simp at h3) h6.2 h6.1 hq5
theorem z9d {W w5 w4:World} {m g base q8 a2 b:Nat} {l:List Nat} {E:Env} {bud:Int} {s:ByteArray} {a:Int} {t2 t3:TypeId} (h:R9 W m g l E bud base q8 s w5 w4) (hs:z0E s∧z2N E s) (ha:0≤a∧a<9223372036854775808)
  (h2:w4.heap[a2]?=some (.cells #[.int .i64 13,.int .i64 0,.int .i64 0,.int .i64 0,.string s,.slice none 0 0,.int .i64 1,.int .i64 0,.int .i64 a,.int .i64 0,.string ⟨#[]⟩,.slice none 0 0] t2 (0,0))) (ha2:w5.heap.size≤a2)
  (h3:w4.heap[b]?=some (.cells #[.int .i64 6,.int .i64 8,.int .i64 0,.int .i64 0,.string ⟨#[]⟩,.slice (some ⟨a2,0,none⟩) 2 2] t3 (0,0))) (hb:w5.heap.size≤b)
: zat W m g l E bud base q8 s (.pointer (some ⟨w4.heap.size,0,none⟩)) (w4.alloc (.cells #[.int .i64 5,.int .i64 0,.string ⟨#[]⟩,.slice (some ⟨b,0,none⟩) 1 1,.slice none 0 0,.slice none 0 0] 109)) :=
 z4z h hs ha h2 ha2 h3 hb (fun e=>by have:=(Array.getElem?_eq_some_iff.1 h2).1; omega) (fun e=>by have:=(Array.getElem?_eq_some_iff.1 h3).1; omega) (World.grownBy_alloc w4 _ _) (heap_alloc_new w4 _) h.sz
theorem z2x {w:World} {o:Obj} {n:Nat} (h:w.heap.size=n):(w.alloc o).heap[n]?=some o:=by subst h; exact heap_alloc_new w o
theorem R9.set6 {W w5 w':World} {m g base q8 q:Nat} {l:List Nat} {E:Env} {bud:Int} {s:ByteArray} {v0 v1 v2 v3 v4 v5:Value} (h:R9 W m g l E bud base q8 s w5 w') (hq5:w5.heap.size≤q) :
  R9 W m g l E bud base q8 s w5 ((((((w'.setCell ⟨q,0,none⟩ v0).setCell ⟨q,1,none⟩ v1).setCell ⟨q,2,none⟩ v2).setCell ⟨q,3,none⟩ v3).setCell ⟨q,4,none⟩ v4).setCell ⟨q,5,none⟩ v5):=by
 have hg6:w'.grownBy ((((((w'.setCell ⟨q,0,none⟩ v0).setCell ⟨q,1,none⟩ v1).setCell ⟨q,2,none⟩ v2).setCell ⟨q,3,none⟩ v3).setCell ⟨q,4,none⟩ v4).setCell ⟨q,5,none⟩ v5) (some q):=((((((z05 w' ⟨q,0,none⟩ v0).trans (z05 _ ⟨q,1,none⟩ v1)).trans (z05 _ ⟨q,2,none⟩ v2)).trans (z05 _ ⟨q,3,none⟩ v3)).trans (z05 _ ⟨q,4,none⟩ v4)).trans (z05 _ ⟨q,5,none⟩ v5))
 generalize ((((((w'.setCell ⟨q,0,none⟩ v0).setCell ⟨q,1,none⟩ v1).setCell ⟨q,2,none⟩ v2).setCell ⟨q,3,none⟩ v3).setCell ⟨q,4,none⟩ v4).setCell ⟨q,5,none⟩ v5)=w9 at *
 have hq85:=h.q85
 have hq8W:=h.q8W
 have hlow:=h.low
 have hsz:=h.sz
 have hmW:=h.ss.mW
 have hWw:=h.ss.chg.size
 have hbW:=h.ss.bw
 have hgt:=hg6.size
 have hl9:lb w9 m=lb w5 m:=(z2d (World.cell?_of_block (hg6.block m (by omega) (fun e=>absurd (show m=q by injection e) (by omega))))).trans h.lb5
 have hne4:lb w' m≠some q:=fun e=>by rw [h.lb5] at e; have:=hlow q e; omega
 exact ⟨⟨h.ss.ls.far hg6 (fun c e=>(show q=c by injection e) ▸ ⟨by omega,hne4⟩),h.ss.chg.far hg6 (fun c e=>(show q=c by injection e) ▸ by omega) hmW,hbW⟩,z04 hg6 (by omega) h.row8,hl9,by omega,hlow,hq8W,hq85,h.lb8⟩
theorem zcT {W w5 w':World} {m g base q8:Nat} {l:List Nat} {E:Env} {bud:Int} {s:ByteArray} (h:R9 W m g l E bud base q8 s w5 w'):w'.cell? ⟨q8,0,none⟩=some (.int .i64 13)∧w'.cell? ⟨q8,1,none⟩=some (.int .i64 0)∧w'.cell? ⟨q8,2,none⟩=some (.int .i64 0)∧w'.cell? ⟨q8,3,none⟩=some (.int .i64 0)∧w'.cell? ⟨q8,4,none⟩=some (.string s)∧w'.cell? ⟨q8,5,none⟩=some (.slice none 0 0)∧w'.cell? ⟨m,0,none⟩=some (.pointer (some ⟨g,0,none⟩))∧R9 W m g l E bud base q8 s w5 w':=by
 obtain ⟨_,_,_,_,_,_,y0,_⟩:=h.ss.ls.gs.cells
 exact ⟨cell_of_row _ _ 0 _ _ _ h.row8,cell_of_row _ _ 1 _ _ _ h.row8,cell_of_row _ _ 2 _ _ _ h.row8,cell_of_row _ _ 3 _ _ _ h.row8,cell_of_row _ _ 4 _ _ _ h.row8,cell_of_row _ _ 5 _ _ _ h.row8,y0,h⟩
theorem node9 {W w5 wn:World} {m g base q8 a2 n c:Nat} {l:List Nat} {E:Env} {bud:Int} {s:ByteArray} {row:Array Value} {t:TypeId} (k o:Int) (h:R9 W m g l E bud base q8 s w5 wn) (hrow:wn.heap[a2]?=some (.cells row t (0,0))) :
  Calls Try.prog 78 #[.int .i64 k,.int .i64 o,.slice (some ⟨a2,0,none⟩) n c] wn fun e w2=>e=.returned (.agg #[.int .i64 k,.int .i64 o,.int .i64 0,.int .i64 0,.string ⟨#[]⟩,.slice (some ⟨a2,0,none⟩) n c])∧R9 W m g l E bud base q8 s w5 w2∧w2.heap[a2]?=some (.cells row t (0,0))∧Below wn.heap.size wn w2 :=
 (z1E k o (some ⟨a2,0,none⟩) n c wn).mono fun _ _ ⟨he,hb⟩=>⟨he,h.below hb,(hb.block _ (Array.getElem?_eq_some_iff.1 hrow).1).trans hrow,hb⟩
theorem one9 {W w5 wn:World} {m g base q8 a2 n c:Nat} {l:List Nat} {E:Env} {bud:Int} {s:ByteArray} {row:Array Value} {t:TypeId} (k:Int) (nm:ByteArray) (k' o:Int) (h:R9 W m g l E bud base q8 s w5 wn) (hrow:wn.heap[a2]?=some (.cells row t (0,0))) :
  Calls Try.prog 63 #[.int .i64 k,.string nm,.agg #[.int .i64 k',.int .i64 o,.int .i64 0,.int .i64 0,.string ⟨#[]⟩,.slice (some ⟨a2,0,none⟩) n c]] wn fun e w2=>∃ b,e=.returned (.agg #[.int .i64 k,.int .i64 0,.string nm,.slice (some ⟨b,0,none⟩) 1 1,.slice none 0 0,.slice none 0 0])∧wn.heap.size≤b ∧
   w2.heap[b]?=some (.cells #[.int .i64 k',.int .i64 o,.int .i64 0,.int .i64 0,.string ⟨#[]⟩,.slice (some ⟨a2,0,none⟩) n c] 112 (0,0))∧R9 W m g l E bud base q8 s w5 w2∧w2.heap[a2]?=some (.cells row t (0,0))∧Below wn.heap.size wn w2 :=
 (z5i k nm k' o 0 0 ⟨#[]⟩ (some ⟨a2,0,none⟩) n c wn).mono fun _ _ ⟨b,h1,_,he,hr,hb⟩=>⟨b,he,h1,hr,h.below hb,(hb.block _ (Array.getElem?_eq_some_iff.1 hrow).1).trans hrow,hb⟩
structure O8 (W:World) (m q8:Nat) (s:ByteArray) (wc:World):Prop where
 row:wc.heap[q8]?=some (.cells #[.int .i64 13,.int .i64 0,.int .i64 0,.int .i64 0,.string s,.slice none 0 0] 112 (0,0))
 qW:W.heap.size≤q8
 qlb:lb wc m≠some q8
theorem O8.step {W wc w2:World} {m g base q8:Nat} {l:List Nat} {E:Env} {bud:Int} {s:ByteArray} (h:O8 W m q8 s wc) (hs:SS W m g l E bud base wc) (hc:Chg m g wc w2):O8 W m q8 s w2:=by
 have h1:=h.qW
 have h2:=hs.mW
 have h3:=hs.gW
 have hl:=(Array.getElem?_eq_some_iff.1 h.row).1
 exact ⟨(hc.block q8 hl (by omega) (by omega) h.qlb).trans h.row,h1,z72 hc hl h.qlb⟩
theorem O8.set {W wc w2:World} {m q q8:Nat} {s:ByteArray} (h:O8 W m q8 s wc) (hg:wc.grownBy w2 (some q)) (hq:q8≠q) (hl:lb w2 m=lb wc m):O8 W m q8 s w2:=⟨z04 hg hq h.row,h.qW,by rw [hl]; exact h.qlb⟩
theorem z1X.set {m base D d q:Nat} {w w':World} {v:Value} {ts:List St} {L:List Value} (h:z1X m base D d w v ts L) (hg:w.grownBy w' (some q)) (hq:q<base) (hl:lb w' m=lb w m):z1X m base D d w' v ts L:=by
 have hne:∀ b,base≤b→some b≠some q:=fun b hb e=>by injection e with e; omega
 refine ⟨z0G h.own (fun b hb=>hg.block b (h.own.lt b hb).2 (hne b (h.own.lt b hb).1)),fun b hb=>by rw [hl]; exact h.sep b hb,fun j x hj=>?_⟩
 obtain ⟨c0,c1,c2,c3,c4,c5,e0,e1,e2,e3,e4,e5,hx⟩:=h.at_ j x hj
 exact ⟨c0,c1,c2,c3,c4,c5,e0,e1,e2,e3,e4,e5,hx.keep (fun k hk=>⟨hk.1,Nat.lt_of_lt_of_le hk.2.1 hg.size,hk.2.2.1,by rw [hl]; exact hk.2.2.2⟩) (fun k hk=>hg.block k hk.2.1 (hne k hk.1))⟩
theorem z99 {W wc:World} {m g base q i:Nat} {l:List Nat} {E:Env} {bud:Int} {row:Array Value} (h:IfSt W m g l E bud base q row wc) (v:Value):lb (wc.setCell ⟨q,i,none⟩ v) m=lb wc m:=by
 have h1:=h.qW
 have h2:=h.ss.mW
 have h4:=h.ss.chg.size
 have hg:=z05 wc ⟨q,i,none⟩ v
 exact z2d (World.cell?_of_block (hg.block m (by omega) (fun e=>absurd (show m=q by injection e) (by omega))))
def Low6 (m:Nat) (W:World) (q n6:Nat) (wc:World) (b:Nat):Prop:=Mad m W q wc b∧b<n6
theorem z4r {ops:Array Oper} {o:Oper} {a:Act} {K:Act→World→Prop} {Q:Exit→Act→World→Prop} {E:Prop} (w:World) (hgd:o.guard=none) (s x:Operand)
  (ho:o.op=.call { callee:=.builtin .append,args:=#[s,x],argTypes:=#[71,71] }) (m base D d:Nat) (v:Value) (ts:List St) (L:List Value) (y:St) (k l:Int) (t:ByteArray) (eA tA uA:Option Addr) (en ec tn tc un uc:Nat) (F:Nat→Prop)
  (hs:a.eval s=v) (hx:a.eval x=.slice (some ⟨w.heap.size,0,none⟩) 1 1) (h:z1X m base D d w v ts L) (hlen:ts.length≤1000000) (hbase:base≤w.heap.size) (hm:m<base) (hlb:∀ b,lb w m=some b→b<w.heap.size)
  (hy:StV F w D d y (.agg #[.int .i64 k,.int .i64 l,.string t,.slice eA en ec,.slice tA tn tc,.slice uA un uc])) (hF:∀ b,F b→base≤b∧b<w.heap.size∧v.ownBlock≠some b∧lb w m≠some b)
  (hk:∀ g cap w',z1X m base D d w' (.slice (some ⟨g,0,none⟩) (ts.length+1) cap) (ts++[y]) (L++[.int .i64 k,.int .i64 l,.string t,.slice eA en ec,.slice tA tn tc,.slice uA un uc])→w.grownBy w' v.ownBlock→K (a.put o.dst (.slice (some ⟨g,0,none⟩) (ts.length+1) cap)) w') :
  if Region.wanted o (yielded ops a.tmps)=true then Oper.wp Try.prog o a (w.alloc (.cells #[.int .i64 k,.int .i64 l,.string t,.slice eA en ec,.slice tA tn tc,.slice uA un uc] 109)) K Q else E:=by
 obtain ⟨i,hi,hz,hsz,hby⟩:=info_parts z70
 refine step_append_lies _ hgd s x _ ho base 109 i _ 6 104 Try.underlying71 hi hz hsz hby rfl (by decide) v ts.length L hs (h.own.alloc _) ⟨w.heap.size,0,none⟩ 1 1 [.int .i64 k,.int .i64 l,.string t,.slice eA en ec,.slice tA tn tc,.slice uA un uc] hx (by simp) ?_ ?_ (by decide) (by unfold maxLen; omega) (by omega) (by simp; omega) _ rfl fun g cap w' h1 h2 h3 _=>hk g cap w' (h.push hy hF hm (by omega) hlb h1 ((Below.refl _ w).alloc (Nat.le_refl _) _) h2 h3) ((World.grownBy_alloc _ _ _).trans h2)
 ·intro j u hu
  rw [Addr.add_lit,Nat.zero_add]
  exact (cell_of_row _ _ _ _ _ _ (heap_alloc_new w _)).trans (by simpa using hu)
 ·intro u hu
  simp at hu
  rcases hu with rfl | rfl | rfl | rfl | rfl | rfl <;> rfl
theorem IfSt.app {W w w':World} {m g base q n6:Nat} {l:List Nat} {E:Env} {bud:Int} {row:Array Value} {v:Value} (h:IfSt W m g l E bud base q row w) (hq:q<n6) (hv:∀ b,v.ownBlock=some b→n6≤b∧lb w m≠some b) (hg:w.grownBy w' v.ownBlock) :
  IfSt W m g l E bud base q row w'∧lb w' m=lb w m∧∀ b,Low6 m W q n6 w b→Low6 m W q n6 w' b∧w'.heap[b]?=w.heap[b]?:=by
 have h1:=h.qW
 have h2:=h.ss.mW
 have h3:=h.ss.bw
 have h4:=h.ss.chg.size
 have hl:lb w' m=lb w m:=z2d (World.cell?_of_block (hg.block m (by omega) (fun e=>by have:=(hv m e.symm).1; omega)))
 refine ⟨⟨⟨h.ss.ls.far hg (fun b e=>⟨by have:=(hv b e).1; omega,(hv b e).2⟩),h.ss.chg.far hg (fun b e=>by have:=(hv b e).1; omega) h2,h3⟩,(hg.block q h.lt (fun e=>by have:=(hv q e.symm).1; omega)).trans h.row,h1,by rw [hl]; exact h.qlb⟩,hl,fun b hb=>⟨⟨⟨⟨hb.1.1.1,Nat.lt_of_lt_of_le hb.1.1.2.1 hg.size,by rw [hl]; exact hb.1.1.2.2⟩,hb.1.2⟩,hb.2⟩,hg.block b hb.1.1.2.1 (fun e=>by have:=(hv b e.symm).1; have:=hb.2; omega)⟩⟩
end Go.Proofs.Ytleicdfkagejoaa
namespace Go.Proofs.Ytleicdfkagejoaa
open Go.RowKit
theorem z1H {w:World} {o o':Obj} {q:Nat} (h:w.heap[q]?=some o'):(w.alloc o).heap[q]?=some o':=(heap_alloc_old w o (Array.getElem?_eq_some_iff.1 h).1).trans h
theorem z1p {w w':World} {o':Obj} {q:Nat} (hb:Below w.heap.size w w') (h:w.heap[q]?=some o'):w'.heap[q]?=some o':=(hb.block q (Array.getElem?_eq_some_iff.1 h).1).trans h
theorem zdD {d:Nat} {ts:List St} {c:Ex} {s:ByteArray} {es:List Ex} {b b1:Int} (hes:incE es=true) (h:((ts.map (cntS (d+1))).sum:Int)≤11 * (b - b1)):(cntS (d+1+1) (.mk 5 0 ⟨#[]⟩ [c] (ts++[.mk 2 0 s es [] []]) []):Int)≤11+11 * (b - b1):=by
 have h5:cK 5 [c]=10:=by unfold cK; rw [if_pos rfl]
 have h2:cK 2 es=1:=by simp [cK,hes]
 simp only [cntS,List.map_append,List.map_cons,List.map_nil,List.sum_append,List.sum_cons,List.sum_nil,h5,h2]
 omega
theorem zdG {F:Nat→Prop} {w:World} {d cap:Nat} {c:Ex} {ts:List St} {a:St} {A B:Option Addr} (hr:RowE F w 3 [c] A 1) (ht:RowS F w 3 d (ts++[a]) B cap):StV F w 3 (d+1) (.mk 5 0 ⟨#[]⟩ [c] (ts++[a]) []) (.agg #[.int .i64 5,.int .i64 0,.string ⟨#[]⟩,.slice A 1 1,.slice B (ts.length+1) cap,.slice none 0 0]) :=
 ⟨A,1,B,cap,none,0,by simp,hr,ht,z0U⟩
theorem z2N.like {E E':Env} {d:Nat} {ts:List St} {s:ByteArray} (h:z2N E s) (hl:E.Like E') (hb:GBc E E' d ts):z2N E' s:=by
 rcases h with h | ⟨x,hx,h⟩
 ·exact .inl (z3R ts hb.2 s h)
 ·exact .inr ⟨x,by rw [hl.globs]; exact hx,h⟩
theorem zdF {w W wc w9:World} {o:Obj} {m g base d cap:Nat} {l:List Nat} {E E':Env} {bud bud':Int} {c:Ex} {s:ByteArray} {ts:List St} {A B:Option Addr} (h:SS W m g l E' bud' base wc) (hW:W=w.alloc o) (h0:LS w m g l E bud base) (hl:E.Like E') (hb0:0≤bud') (hbb:bud'≤bud) (hln:(E'.locals.length:Int)+bud'≤1000)
  (hg:wc.grownBy w9 (some w.heap.size)) (hc:GX E 2 c) (hs:z0E s∧z2N E s) (hgs:GBc E E' (d+1) ts) (hcnt:((ts.map (cntS (d+1))).sum:Int)≤11 * (bud - bud')) (hr:RowE (Made m W wc) wc 3 [c] A 1) (ht:RowS (Made m W wc) wc 3 (d+1) (ts++[.mk 2 0 s [.mk 6 3 0 0 ⟨#[]⟩ [.mk 13 0 0 0 s [],.mk 1 0 1 0 ⟨#[]⟩ []]] [] []]) B cap) :
  z1d m g l E bud base (d+1) w (.returned (.agg #[.int .i64 5,.int .i64 0,.string ⟨#[]⟩,.slice A 1 1,.slice B (ts.length+1) cap,.slice none 0 0])) w9 :=
 z2m (x:=.mk 5 0 ⟨#[]⟩ [c] (ts++[.mk 2 0 s [.mk 6 3 0 0 ⟨#[]⟩ [.mk 13 0 0 0 s [],.mk 1 0 1 0 ⟨#[]⟩ []]] [] []]) []) h hW h0 hl hb0 hbb hln hg
  (z43 hc (z6V hl hgs (z8P (zbO (by omega) (by omega) ⟨hs.1,hs.2.like hl hgs⟩) (.inl ⟨rfl,hs.1,hs.2.like hl hgs⟩)))) (zdD rfl hcnt) (zdG hr ht)
theorem z5c {r:Nat} (h:r<5):IntKind.i64.wrap (1+(r:Int))=1+(r:Int):=by
 have hc:r=0∨r=1∨r=2∨r=3∨r=4:=by omega
 rcases hc with rfl | rfl | rfl | rfl | rfl <;> decide
theorem zdC {d b2:Nat} {w3 w4:World} {s:ByteArray} {n8:Nat} {t2 t3:TypeId} (h83:n8≤w3.heap.size) (h2:w4.heap[n8]?=some (.cells #[.int .i64 13,.int .i64 0,.int .i64 0,.int .i64 0,.string s,.slice none 0 0,.int .i64 1,.int .i64 0,.int .i64 1,.int .i64 0,.string ⟨#[]⟩,.slice none 0 0] t2 (0,0)))
  (h3:w4.heap[b2]?=some (.cells #[.int .i64 6,.int .i64 3,.int .i64 0,.int .i64 0,.string ⟨#[]⟩,.slice (some ⟨n8,0,none⟩) 2 2] t3 (0,0))) (hb:w3.heap.size≤b2) (hb2:b2<w4.heap.size) :
  StV (fun b=>n8≤b∧b<w4.heap.size) w4 3 (d+1) (.mk 2 0 s [.mk 6 3 0 0 ⟨#[]⟩ [.mk 13 0 0 0 s [],.mk 1 0 1 0 ⟨#[]⟩ []]] [] []) (.agg #[.int .i64 2,.int .i64 0,.string s,.slice (some ⟨b2,0,none⟩) 1 1,.slice none 0 0,.slice none 0 0]) :=
 z5o (z2A (z8x ⟨Nat.le_refl _,(Array.getElem?_eq_some_iff.1 h2).1⟩ h2) (fun _ h=>h) (fun _ _=>rfl) ⟨by omega,hb2⟩ h3)
theorem zdE {W w8 w4:World} {m g base n6:Nat} {l:List Nat} {E:Env} {bud:Int} {v:Value} (ho:∀ b,v.ownBlock=some b→n6≤b∧b<w8.heap.size) (h:SS W m g l E bud base w8) (hb:Below w8.heap.size w8 w4) (h68:n6≤w8.heap.size) :
  ∀ b,(w8.heap.size≤b∧b<w4.heap.size)→n6≤b∧b<w4.heap.size∧v.ownBlock≠some b∧lb w4 m≠some b:=fun b hb'=>by
 have hm:=Nat.lt_of_lt_of_le h.mW h.chg.size
 have hl:lb w4 m=lb w8 m:=z2d (World.cell?_of_block (hb.block m hm))
 refine ⟨by omega,hb'.2,fun e=>by have:=(ho b e).2; omega,fun e=>?_⟩
 rw [hl] at e
 have:=(h.ls.lbl b e).2
 omega
theorem zb3 {W wn w5:World} {m g base:Nat} {l:List Nat} {E:Env} {bud:Int} {s:ByteArray} {o:Obj} (h:SS W m g l E bud base wn) (hg:(wn.alloc o).grownBy w5 (some wn.heap.size)) (hr:w5.heap[wn.heap.size]?=some (.cells #[.int .i64 13,.int .i64 0,.int .i64 0,.int .i64 0,.string s,.slice none 0 0] 112 (0,0))) :
  R9 W m g l E bud base wn.heap.size s w5 w5:=by
 have hb:Below wn.heap.size wn w5:=((Below.refl _ wn).alloc (Nat.le_refl _) o).trans (z07 hg (fun k hk=>by injection hk with hk; omega) (by simp))
 obtain ⟨hs,_⟩:=h.below hb
 have hm:=Nat.lt_of_lt_of_le h.mW h.chg.size
 have hl:lb w5 m=lb wn m:=z2d (World.cell?_of_block (hb.block m hm))
 refine ⟨hs,hr,rfl,Nat.le_refl _,fun b hb'=>(hs.ls.lbl b hb').2,h.chg.size,(Array.getElem?_eq_some_iff.1 hr).1,fun e=>?_⟩
 rw [hl] at e
 have:=(h.ls.lbl _ e).2
 omega
set_option maxRecDepth 100000 in
set_option maxHeartbeats 16000000 in
theorem z9g (m g:Nat) (l:List Nat) (base d':Nat) (hd:d'≤4) (hB:z3V m g l base d'):zbJ m g l base (d'+1):=by
 intro E bud w z hz hE hls hb0 hln
 have Hls:=zhi hls
 have HE:=zhi hE
 have Hb0:=zhi hb0
 have Hln:=zhi hln
 have HBc:=zhi hB
 have hz0:1≤z:=by omega
 have hz6:z≤6:=by omega
 have Hz:=zhi hz
 have hmb:=hls.mb
 have hgm:=hls.gb
 have hbs:=hls.bs
 have hss:=SS.start hls (.cells #[.int .i64 0,.int .i64 0,.string { data:=#[] },.slice none 0 0,.slice none 0 0,.slice none 0 0] 109)
 have Hss:=zhi hss
 clear hss hls hE hb0 hln hB hz
 go_enter Try.func66,Try.ntmps66
 go_upto_region 1 with fail
 generalize hWe:w.alloc (.cells #[.int .i64 0,.int .i64 0,.string { data:=#[] },.slice none 0 0,.slice none 0 0,.slice none 0 0] 109)=W at *
 have HW:=zhi hWe.symm
 clear hWe
 have hpk:=zhi ((z6G Hss.out HE.out false))
 go_wp2_with fail
 refine hpk.out.mono ?_
 rintro e w2 ⟨s,ok,rfl,hok,hss,hc⟩
 have HS:=zhi hok
 replace Hss:=zhi hss
 clear hpk hok hss hc
 obtain ⟨_,_,_,_,lA,lc,y0,z1,z2,b3,z4,z5,z6,q3⟩:=Hss.out.ls.gs.cells
 obtain ⟨ln,hln⟩:∃ ln,ln=E.locals.length:=⟨_,rfl⟩
 have hcap:ln≤lc:=by rw [hln]; exact q3.1
 have hlc:ln≤1000:=by rw [hln]; exact HE.out.ln
 rw [← hln] at b3
 have HLL:=zhi hln
 have Q3:=zhi q3
 clear hln z1 z2 z4 z5 z6 q3
 go_upto_region 2 with fail
 go_cut [28] from 10 (fun v wd=>∃ b:Bool,v=.bool b∧(b=true→0<E.locals.length)∧SS W m g l E bud base wd)
 case first =>
  by_cases h0:0<ln
  ·have hnx:=zhi (z17 Hss.out 3 3 rfl (by omega))
   go_wp2_with fail
   refine hnx.out.mono ?_
   rintro e w3 ⟨r3,rfl,hr0,hss,hc,_⟩
   have hrb:=hr0 (by omega)
   replace Hss:=zhi hss
   clear hnx hr0 hss hc
   clear b3 y0
   go_wp2_with fail
   go_meet
   case rel=>exact ⟨_,rfl,fun _=>by rw [← HLL.out]; exact h0,Hss.out⟩
  ·go_wp2_with fail
   go_meet
   case rel=>exact ⟨_,rfl,fun h=>by simp at h,Hss.out⟩
 case rest =>
 obtain ⟨vb,rfl,hvb,hss⟩:=hcut
 have Hss:=zhi hss
 have Hvb:=zhi hvb
 clear hvb hss b3 y0 HLL Q3 hcap hlc
 go_upto_if 28 with fail
 go_cut [5,6] from 10 (fun v u wd=>∃ (s:ByteArray) (ok:Bool),v=.string s∧u=.bool ok∧(ok=true→z0E s∧z2N E s)∧SS W m g l E bud base wd)
 case first =>
  cases vb with
  | true =>
   obtain ⟨_,_,_,_,lA,lc,y0,z1,z2,b3,z4,z5,z6,q3⟩:=Hss.out.ls.gs.cells
   obtain ⟨ln,hln⟩:∃ ln,ln=E.locals.length:=⟨_,rfl⟩
   have hcap:ln≤lc:=by rw [hln]; exact q3.1
   have hlc:ln≤1000:=by rw [hln]; exact HE.out.ln
   rw [← hln] at b3
   have HLL:=zhi hln
   have Q3:=zhi q3
   clear hln z1 z2 z4 z5 z6 q3
   have h0:0<ln:=by rw [HLL.out]; exact Hvb.out rfl
   obtain ⟨rr,rfl,hrg,_⟩:=z2C Q3.out (by rw [← HLL.out]; exact h0)
   obtain ⟨sn,hsn,hsm⟩:=z9f Q3.out
   rw [← HLL.out] at hsn hsm
   have Hsm:=zhi hsm
   have hmg:=Hss.out.ls.gs.ne
   have hdr:=Hss.out.below (Below.refl _ wc).drew
   have hnl:=zhi (z17 hdr.1 ln ln rfl (by omega))
   have hS0:wc.drew.cell? ⟨m,3,none⟩=some (.slice (some ⟨rr,0,none⟩) ln lc)∧(∀ q,q<ln→wc.drew.cell? ⟨rr,q,none⟩=some (.string (sn q)))∧wc.drew.cell? ⟨m,0,none⟩=some (.pointer (some ⟨g,0,none⟩)):=⟨b3,hsn,y0⟩
   clear hdr hsn hsm
   go_upto_region 3 with fail
   go_region_held3 (fun w'=>w'.cell? ⟨m,3,none⟩=some (.slice (some ⟨rr,0,none⟩) ln lc)∧(∀ q,q<ln→w'.cell? ⟨rr,q,none⟩=some (.string (sn q)))∧w'.cell? ⟨m,0,none⟩=some (.pointer (some ⟨g,0,none⟩)))
    (first | (with_reducible exact hS0) | (with_reducible exact hS2))
    (first | (go_at_call 14; (with_reducible refine hnl.out.mono ?_); rintro e wa ⟨q,rfl,hq1,hss2,_,hg2⟩; have hq:q<ln:=(hq1 (by omega)); have hS2:wa.cell? ⟨m,3,none⟩=some (.slice (some ⟨rr,0,none⟩) ln lc)∧(∀ q,q<ln→wa.cell? ⟨rr,q,none⟩=some (.string (sn q)))∧wa.cell? ⟨m,0,none⟩=some (.pointer (some ⟨g,0,none⟩)):=⟨z0a hg2 hmg hS0.1,fun q hq=>z0a hg2 hrg (hS0.2.1 q hq),z0a hg2 hmg hS0.2.2⟩; have Hss2:=zhi hss2; clear hq1 hss2 hg2))
   all_goals
    go_wp2_with fail
    go_meet
    case rel=>exact ⟨sn q,true,rfl,rfl,fun _=>⟨HE.out.ls _ (Hsm.out q hq),.inl (Hsm.out q hq)⟩,Hss2.out⟩
  | false =>
   go_wp2_with fail
   go_meet
   case rel=>exact ⟨s,ok,rfl,rfl,fun h=>⟨(HS.out h).1,.inr (HS.out h).2⟩,Hss.out⟩
 case rest =>
  obtain ⟨s,ok,rfl,rfl,hok,hss⟩:=hcut
  have Hss:=zhi hss
  have HS:=zhi hok
  clear hok hss Hvb
  go_upto_region 4 with fail
  cases ok with
  | false =>
        have hex:=zhi (z0M Hss.out HE.out)
        go_wp2_with fail
        refine hex.out.mono ?_
        rintro e w3 ⟨x,k,o,a,lf,s',A,n,c,rfl,hge,hx,hss,hc⟩
        have HG:=zhi hge
        have HX:=zhi hx
        replace Hss:=zhi hss
        clear hex hge hx hss hc
        have hon:=zhi (z1n Hss.out HX.out 5 ⟨#[]⟩)
        go_wp2_with fail
        refine hon.out.mono ?_
        rintro e w4 ⟨b,rfl,hr,hss,hc⟩
        have HR:=zhi hr
        replace Hss:=zhi hss
        clear hon hr hss hc HX
        go_wp2_with (with_reducible refine z01 ?_)
        refine z08.of (z00 _ rfl _ _ _ rfl w4.heap.size _ rfl (by rfl) _ _ (heap_alloc_new w4 _) (by kernel_rfl) (by rfl) (by simp [Value.oneCell']) ?_)
        intro w5 hrow5 hg5
        obtain ⟨hif,hc5,hmd⟩:=IfSt.make Hss.out hg5 hrow5
        have HI:=zhi hif
        have HRM:=zhi (HR.out.keep (fun b hb=>(hmd b hb).1) (fun b hb=>(hmd b hb).2))
        have HT:Hid (RowS (Mad m W w4.heap.size w5) w5 3 0 [] none 0):=zhi z0U
        clear hg5 hrow5 hif hc5 hmd HR
        obtain ⟨_,_,_,_,_,_,y0,z1,z2,z3,z4,z5,z6,z7⟩:=HI.out.ss.ls.gs.cells
        clear z1 z2 z3 z4 z5 z6 z7
        have hnx:=zhi (z17 HI.out.ss 2 2 rfl (by omega))
        go_wp2_with fail
        refine hnx.out.mono ?_
        rintro e w6 ⟨r6,rfl,hr0,hss,hc,_⟩
        have hrb:=hr0 (by omega)
        replace HRM:=zhi (HRM.out.keep (fun b hb=>(z0e HI.out.ss hc b hb).1) (fun b hb=>(z0e HI.out.ss hc b hb).2))
        replace HT:=zhi (HT.out.keep (fun b hb=>(z0e HI.out.ss hc b hb).1) (fun b hb=>(z0e HI.out.ss hc b hb).2))
        replace HI:=zhi (HI.out.step hss hc)
        clear hnx hr0 hss hc
        clear y0
        have hbl:=zhi (z2i HBc.out HI.out.ss HE.out (z - 1) (1+(r6:Int)) (1+r6) (by have:=Hz.out; omega) (by omega) (by omega) Hb0.out (by have:=Hln.out; omega))
        go_wp2_with fail
        refine hbl.out.mono ?_
        rintro e w7 ⟨E1,b1,ts,A1,c1,rfl,hlk,hss,hb1,hb2,hl1,hc,hgs,hcn,hrw,_⟩
        have hq:=HI.out.lt
        have hqW:=HI.out.qW
        replace HRM:=zhi (HRM.out.keep (fun b hb=>(z0e HI.out.ss hc b hb).1) (fun b hb=>(z0e HI.out.ss hc b hb).2))
        replace HT:=zhi (hrw.keep (G:=Mad m W w4.heap.size w7) (fun b hb=>⟨⟨by have:=hb.1; omega,hb.2.1,hb.2.2⟩,by have:=hb.1; omega⟩) (fun _ _=>rfl))
        replace HI:=zhi (HI.out.step hss hc)
        have HLk:=zhi hlk
        have HB1:=zhi hb1
        have HB2:=zhi hb2
        have HL1:=zhi hl1
        have HGs:=zhi hgs
        have HCn:=zhi hcn
        clear hbl hlk hss hb1 hb2 hl1 hc hgs hcn hrw hq hqW hrb
        have e4:=cell_of_row _ _ 4 _ _ _ HI.out.row
        have f4:=z06 HI.out.row 4
        go_upto_region 7 with fail
        have HRW:=zhi (HRM.out.keep (fun b hb=>(z0s HI.out 4 (.slice A1 ts.length c1) b hb).1.1) (fun b hb=>(z0s HI.out 4 (.slice A1 ts.length c1) b hb).2))
        have HTW:=zhi (HT.out.keep (fun b hb=>(z0s HI.out 4 (.slice A1 ts.length c1) b hb).1.1) (fun b hb=>(z0s HI.out 4 (.slice A1 ts.length c1) b hb).2))
        have hI8:IfSt W m g l E1 b1 base w4.heap.size #[.int .i64 5,.int .i64 0,.string { data:=#[] },.slice (some ⟨b,0,none⟩) 1 1,.slice A1 ts.length c1,.slice none 0 0] _:=HI.out.set 4 (.slice A1 ts.length c1)
        replace HI:=zhi hI8
        clear e4 f4 hI8 HRM HT
        generalize w7.setCell ⟨w4.heap.size,4,none⟩ (.slice A1 ts.length c1)=w8 at *
        clear Hss
        obtain ⟨e0,e1,e2,e3,e4,e5⟩:=cl6 HI.out.row
        have Hss:=zhi HI.out.ss
        clear HI
        have HB:=zhi (Hss.out.res HW.out Hls.out)
        go_wp2_with (with_reducible refine z01 ?_)
        refine z08.of (z00 _ rfl _ _ _ rfl w.heap.size _ rfl (by rfl) _ _ HB.out (by kernel_rfl) (by rfl) (by simp [Value.oneCell']) ?_)
        intro w9 hrow hg9
        obtain ⟨k0,k1,k2,k3,k4,k5⟩:=cl6 hrow
        have Hg9:=zhi hg9
        clear hrow hg9
        have HH:Hid (z1d m g l E bud base (d'+1) w _ w9):=zhi (z2m (x:=.mk 5 0 ⟨#[]⟩ [x] ts []) Hss.out HW.out Hls.out HLk.out HB1.out HB2.out HL1.out Hg9.out (z43 HG.out HGs.out) (by have:=HCn.out; have:=(z5x 5 [x]).2; simp only [cntS,List.map_nil,List.sum_nil]; omega) ⟨_,_,_,_,_,_,rfl,HRW.out,HTW.out,z0U⟩)
        go_wp2_with fail
        refine bodyPost_ret ?_ rfl HH.out
        simp [results,Try.results66,go_sem,k0,k1,k2,k3,k4,k5]
  | true =>
   replace HS:=zhi (HS.out rfl)
   obtain ⟨_,_,_,_,_,_,y0,z1,z2,z3,z4,z5,z6,z7⟩:=Hss.out.ls.gs.cells
   clear z1 z2 z3 z4 z5 z6 z7
   have hnx:=zhi (z17 Hss.out 8 8 rfl (by omega))
   go_wp2_with fail
   refine hnx.out.mono ?_
   rintro e wn ⟨rn,rfl,hr0,hss,hc,_⟩
   have hrb:=hr0 (by omega)
   replace Hss:=zhi hss
   clear hnx hr0 hss hc
   clear y0
   by_cases h7:rn=7
   ·subst h7
    have hex:=zhi (z0M Hss.out HE.out)
    go_wp2_with fail
    refine hex.out.mono ?_
    rintro e w3 ⟨x,k,o,a,lf,s',A,n,c,rfl,hge,hx,hss,hc⟩
    have HG:=zhi hge
    have HX:=zhi hx
    replace Hss:=zhi hss
    clear hex hge hx hss hc
    have hon:=zhi (z1n Hss.out HX.out 5 ⟨#[]⟩)
    go_wp2_with fail
    refine hon.out.mono ?_
    rintro e w4 ⟨b,rfl,hr,hss,hc⟩
    have HR:=zhi hr
    replace Hss:=zhi hss
    clear hon hr hss hc HX
    go_wp2_with (with_reducible refine z01 ?_)
    refine z08.of (z00 _ rfl _ _ _ rfl w4.heap.size _ rfl (by rfl) _ _ (heap_alloc_new w4 _) (by kernel_rfl) (by rfl) (by simp [Value.oneCell']) ?_)
    intro w5 hrow5 hg5
    obtain ⟨hif,hc5,hmd⟩:=IfSt.make Hss.out hg5 hrow5
    have HI:=zhi hif
    have HRM:=zhi (HR.out.keep (fun b hb=>(hmd b hb).1) (fun b hb=>(hmd b hb).2))
    have HT:Hid (RowS (Mad m W w4.heap.size w5) w5 3 0 [] none 0):=zhi z0U
    clear hg5 hrow5 hif hc5 hmd HR
    obtain ⟨_,_,_,_,_,_,y0,z1,z2,z3,z4,z5,z6,z7⟩:=HI.out.ss.ls.gs.cells
    clear z1 z2 z3 z4 z5 z6 z7
    have hnx:=zhi (z17 HI.out.ss 2 2 rfl (by omega))
    go_wp2_with fail
    refine hnx.out.mono ?_
    rintro e w6 ⟨r6,rfl,hr0,hss,hc,_⟩
    have hrb:=hr0 (by omega)
    replace HRM:=zhi (HRM.out.keep (fun b hb=>(z0e HI.out.ss hc b hb).1) (fun b hb=>(z0e HI.out.ss hc b hb).2))
    replace HT:=zhi (HT.out.keep (fun b hb=>(z0e HI.out.ss hc b hb).1) (fun b hb=>(z0e HI.out.ss hc b hb).2))
    replace HI:=zhi (HI.out.step hss hc)
    clear hnx hr0 hss hc
    clear y0
    have hbl:=zhi (z2i HBc.out HI.out.ss HE.out (z - 1) (1+(r6:Int)) (1+r6) (by have:=Hz.out; omega) (by omega) (by omega) Hb0.out (by have:=Hln.out; omega))
    go_wp2_with fail
    refine hbl.out.mono ?_
    rintro e w7 ⟨E1,b1,ts,A1,c1,rfl,hlk,hss,hb1,hb2,hl1,hc,hgs,hcn,hrw,_⟩
    have hq:=HI.out.lt
    have hqW:=HI.out.qW
    replace HRM:=zhi (HRM.out.keep (fun b hb=>(z0e HI.out.ss hc b hb).1) (fun b hb=>(z0e HI.out.ss hc b hb).2))
    replace HT:=zhi (hrw.keep (G:=Mad m W w4.heap.size w7) (fun b hb=>⟨⟨by have:=hb.1; omega,hb.2.1,hb.2.2⟩,by have:=hb.1; omega⟩) (fun _ _=>rfl))
    replace HI:=zhi (HI.out.step hss hc)
    have HLk:=zhi hlk
    have HB1:=zhi hb1
    have HB2:=zhi hb2
    have HL1:=zhi hl1
    have HGs:=zhi hgs
    have HCn:=zhi hcn
    clear hbl hlk hss hb1 hb2 hl1 hc hgs hcn hrw hq hqW hrb
    have e4:=cell_of_row _ _ 4 _ _ _ HI.out.row
    have f4:=z06 HI.out.row 4
    go_upto_region 7 with fail
    have HRW:=zhi (HRM.out.keep (fun b hb=>(z0s HI.out 4 (.slice A1 ts.length c1) b hb).1.1) (fun b hb=>(z0s HI.out 4 (.slice A1 ts.length c1) b hb).2))
    have HTW:=zhi (HT.out.keep (fun b hb=>(z0s HI.out 4 (.slice A1 ts.length c1) b hb).1.1) (fun b hb=>(z0s HI.out 4 (.slice A1 ts.length c1) b hb).2))
    have hI8:IfSt W m g l E1 b1 base w4.heap.size #[.int .i64 5,.int .i64 0,.string { data:=#[] },.slice (some ⟨b,0,none⟩) 1 1,.slice A1 ts.length c1,.slice none 0 0] _:=HI.out.set 4 (.slice A1 ts.length c1)
    replace HI:=zhi hI8
    clear e4 f4 hI8 HRM HT
    generalize w7.setCell ⟨w4.heap.size,4,none⟩ (.slice A1 ts.length c1)=w8 at *
    clear Hss
    obtain ⟨e0,e1,e2,e3,e4,e5⟩:=cl6 HI.out.row
    have Hss:=zhi HI.out.ss
    clear HI
    have HB:=zhi (Hss.out.res HW.out Hls.out)
    go_wp2_with (with_reducible refine z01 ?_)
    refine z08.of (z00 _ rfl _ _ _ rfl w.heap.size _ rfl (by rfl) _ _ HB.out (by kernel_rfl) (by rfl) (by simp [Value.oneCell']) ?_)
    intro w9 hrow hg9
    obtain ⟨k0,k1,k2,k3,k4,k5⟩:=cl6 hrow
    have Hg9:=zhi hg9
    clear hrow hg9
    have HH:Hid (z1d m g l E bud base (d'+1) w _ w9):=zhi (z2m (x:=.mk 5 0 ⟨#[]⟩ [x] ts []) Hss.out HW.out Hls.out HLk.out HB1.out HB2.out HL1.out Hg9.out (z43 HG.out HGs.out) (by have:=HCn.out; have:=(z5x 5 [x]).2; simp only [cntS,List.map_nil,List.sum_nil]; omega) ⟨_,_,_,_,_,_,rfl,HRW.out,HTW.out,z0U⟩)
    go_wp2_with fail
    refine bodyPost_ret ?_ rfl HH.out
    simp [results,Try.results66,go_sem,k0,k1,k2,k3,k4,k5]
   ·have h7:((rn:Int) == 7)=false:=by simp; omega
    go_wp2_with (with_reducible refine z01 ?_)
    refine z08.of (z00 _ rfl _ _ _ rfl wn.heap.size _ rfl (by rfl) _ _ (heap_alloc_new wn _) (by kernel_rfl) (by rfl) (by simp [Value.oneCell']) ?_)
    intro w5 hrow5 hg5
    have hR5:=zb3 Hss.out hg5 hrow5
    have h85:=hR5.q85
    have hR0:=hR5.drew
    have hS0:=zcT hR0
    clear hg5 hrow5
    go_upto_region 9 with fail
    dsimp only [Act.put]
    go_cut [9] from 10 (fun v wd=>zat W m g l E bud base wn.heap.size s v wd)
    case first =>
     rename_i hJ hK
     have HS0:=zhi hS0
     have hne5:w5.heap.size≠g:=by have:=Hss.out.gW; have:=hR5.ss.chg.size; omega
     clear hS0
     go_region_held3 (fun w'=>w'.cell? ⟨wn.heap.size,0,none⟩=some (.int .i64 13)∧w'.cell? ⟨wn.heap.size,1,none⟩=some (.int .i64 0)∧w'.cell? ⟨wn.heap.size,2,none⟩=some (.int .i64 0)∧w'.cell? ⟨wn.heap.size,3,none⟩=some (.int .i64 0)∧w'.cell? ⟨wn.heap.size,4,none⟩=some (.string s)∧w'.cell? ⟨wn.heap.size,5,none⟩=some (.slice none 0 0)∧w'.cell? ⟨m,0,none⟩=some (.pointer (some ⟨g,0,none⟩))∧R9 W m g l E bud base wn.heap.size s w5 w')
      (first | (with_reducible exact HS0.out) | ((with_reducible refine zcT ?_); (repeat (first | (with_reducible assumption) | (with_reducible refine R9.alloc ?_ _) | (with_reducible refine R9.drew ?_))); done) | ((with_reducible refine zcT (R9.set6 ?_ ?_)); (repeat (first | (with_reducible assumption) | (with_reducible refine R9.alloc ?_ _))); (have:=hR2.sz; have:=hR3.sz; have:=hR4.sz; omega)))
      (first | (go_at_call 14; (with_reducible refine (zcP (W:=W) (m:=m) (g:=g) (base:=base) (l:=l) (E:=E) (bud:=bud) (w5:=w5) (q8:=wn.heap.size) (s:=s) ?_ 5 5 rfl (by omega) (by omega)).mono ?_); (repeat (first | (with_reducible assumption) | (with_reducible refine R9.alloc ?_ _) | (with_reducible refine R9.drew ?_))); rintro e w2 ⟨r5,rfl,hr5,hR2,hg2⟩; (try (have hz2:w2.heap[w5.heap.size]?=some (.cells #[.int .i64 0,.int .i64 0,.string { data:=#[] },.slice none 0 0,.slice none 0 0,.slice none 0 0] 109 (0,0)):=by with_reducible exact z04 hg2 hne5 (z2x rfl)))) | (go_at_call 78; (with_reducible refine (node9 (W:=W) (m:=m) (g:=g) (base:=base) (l:=l) (E:=E) (bud:=bud) (w5:=w5) (q8:=wn.heap.size) (s:=s) (row:=#[.int .i64 13,.int .i64 0,.int .i64 0,.int .i64 0,.string s,.slice none 0 0,.int .i64 1,.int .i64 0,.int .i64 (IntKind.i64.wrap (1+(r5:Int))),.int .i64 0,.string { data:=#[] },.slice none 0 0]) (t:=112) 6 8 ?_ ?_).mono ?_); (repeat (first | (with_reducible assumption) | (with_reducible refine R9.alloc ?_ _) | (with_reducible refine R9.drew ?_))); (first | (with_reducible exact z2x rfl) | (with_reducible exact z1H (z2x rfl)) | (with_reducible exact z2x (by simp)) | (with_reducible exact z1H (z2x (by simp)))); rintro e w3 ⟨rfl,hR3,ha2,hb3⟩; (try (have hz3:w3.heap[w5.heap.size]?=some (.cells #[.int .i64 0,.int .i64 0,.string { data:=#[] },.slice none 0 0,.slice none 0 0,.slice none 0 0] 109 (0,0)):=by with_reducible exact z1p hb3 (z1H hz2))); (try (have hz3:w3.heap[w2.heap.size]?=some (.cells #[.int .i64 0,.int .i64 0,.string { data:=#[] },.slice none 0 0,.slice none 0 0,.slice none 0 0] 109 (0,0)):=by with_reducible exact z1p hb3 (z1H (z2x rfl)))); (try (have hz3:w3.heap[w2.heap.size+1]?=some (.cells #[.int .i64 0,.int .i64 0,.string { data:=#[] },.slice none 0 0,.slice none 0 0,.slice none 0 0] 109 (0,0)):=by with_reducible exact z1p hb3 (z2x (by simp))))) | (go_at_call 63; (with_reducible refine (one9 (W:=W) (m:=m) (g:=g) (base:=base) (l:=l) (E:=E) (bud:=bud) (w5:=w5) (q8:=wn.heap.size) (s:=s) (row:=#[.int .i64 13,.int .i64 0,.int .i64 0,.int .i64 0,.string s,.slice none 0 0,.int .i64 1,.int .i64 0,.int .i64 (IntKind.i64.wrap (1+(r5:Int))),.int .i64 0,.string { data:=#[] },.slice none 0 0]) (t:=112) 5 ⟨#[]⟩ 6 8 ?_ ?_).mono ?_); (repeat (first | (with_reducible assumption) | (with_reducible refine R9.alloc ?_ _) | (with_reducible refine R9.drew ?_))); (try (first | (with_reducible exact ha2) | (with_reducible exact z1H ha2))); rintro e w4 ⟨b,rfl,hb1,hrb,hR4,ha4,hb4⟩; (try (have hz4:=z1p hb4 hz3; clear hz3; have kk0:=cell_of_row _ _ 0 _ _ _ hz4; have kk1:=cell_of_row _ _ 1 _ _ _ hz4; have kk2:=cell_of_row _ _ 2 _ _ _ hz4; have kk3:=cell_of_row _ _ 3 _ _ _ hz4; have kk4:=cell_of_row _ _ 4 _ _ _ hz4; have kk5:=cell_of_row _ _ 5 _ _ _ hz4; have kf0:=z06 hz4 0; have kf1:=z06 hz4 1; have kf2:=z06 hz4 2; have kf3:=z06 hz4 3; have kf4:=z06 hz4 4; have kf5:=z06 hz4 5)); (try (have hz4:w4.heap[w3.heap.size]?=some (.cells #[.int .i64 0,.int .i64 0,.string { data:=#[] },.slice none 0 0,.slice none 0 0,.slice none 0 0] 109 (0,0)):=(by with_reducible exact z1p hb4 (z2x rfl)); have kk0:=cell_of_row _ _ 0 _ _ _ hz4; have kk1:=cell_of_row _ _ 1 _ _ _ hz4; have kk2:=cell_of_row _ _ 2 _ _ _ hz4; have kk3:=cell_of_row _ _ 3 _ _ _ hz4; have kk4:=cell_of_row _ _ 4 _ _ _ hz4; have kk5:=cell_of_row _ _ 5 _ _ _ hz4; have kf0:=z06 hz4 0; have kf1:=z06 hz4 1; have kf2:=z06 hz4 2; have kf3:=z06 hz4 3; have kf4:=z06 hz4 4; have kf5:=z06 hz4 5))))
     ·have ha:IntKind.i64.wrap (1+(r5:Int))=1+(r5:Int):=z5c hr5
      have hres:=z9d (a:=IntKind.i64.wrap (1+(r5:Int))) hR4 HS.out (by rw [ha]; omega) ha4 (by have:=hR2.sz; omega) hrb (by have:=hR3.sz; omega)
      have HRES:=zhi hres
      clear hres ha hR4 hR3 hR2 ha4 hrb hb1 hb4 hb3 hg2
      dsimp only [Exit.then]
      refine hK _ _ (Met.intro (hJ _ _ ?_))
      (repeat apply Exists.intro)
      refine ⟨?rel,rfl⟩
      case rel=>exact HRES.out
     all_goals
      have ha:IntKind.i64.wrap (1+(r5:Int))=1+(r5:Int):=z5c hr5
      have hres:=zaR (a:=IntKind.i64.wrap (1+(r5:Int))) hR4 HS.out (by rw [ha]; omega) ha4 (by have:=hR2.sz; omega) hrb (by have:=hR3.sz; (try simp at hb1); omega) hz4 (by have:=hR2.sz; have:=hR3.sz; omega)
      have HRES:=zhi hres
      clear hres ha hR4 hR3 hR2 ha4 hrb hb1 hb4 hb3 hg2
      dsimp only [Exit.then]
      refine hK _ _ (Met.intro (hJ _ _ ?_))
      (repeat apply Exists.intro)
      refine ⟨?rel,rfl⟩
      case rel=>exact HRES.out
    case rest =>
     clear hS0 hR0 hR5
     obtain ⟨q,b,cnd,rfl,hif,hrow,hge,h8,h8q,h8W,h8l⟩:=hcut
     have HO:=zhi (O8.mk h8 h8W h8l)
     have HI:=zhi hif
     have HG:=zhi hge
     have HRM:=zhi hrow
     obtain ⟨_,_,_,_,_,_,y0,z1,z2,z3,z4,z5,z6,z7⟩:=hif.ss.ls.gs.cells
     clear z1 z2 z3 z4 z5 z6 z7 h8 h8W h8l hif hge hrow
     have hnx:=zhi (z17 HI.out.ss 3 3 rfl (by omega))
     go_wp2_with fail
     refine hnx.out.mono ?_
     rintro e w6 ⟨r6,rfl,hr0,hss,hc,_⟩
     have hrb:=hr0 (by omega)
     replace HRM:Hid (RowE (Low6 m W q w6.heap.size w6) w6 3 [cnd] (some ⟨b,0,none⟩) 1):=zhi (HRM.out.keep (fun b hb=>⟨(z0e HI.out.ss hc b hb).1,(z0e HI.out.ss hc b hb).1.1.2.1⟩) (fun b hb=>(z0e HI.out.ss hc b hb).2))
     replace HO:=zhi (HO.out.step HI.out.ss hc)
     replace HI:=zhi (HI.out.step hss hc)
     clear hnx hr0 hss hc y0
     have hbl:=zhi (z2i HBc.out HI.out.ss HE.out (z - 1) (r6:Int) r6 (by have:=Hz.out; omega) rfl (by omega) Hb0.out (by have:=Hln.out; omega))
     go_wp2_with fail
     refine hbl.out.mono ?_
     rintro e w7 ⟨E1,b1,ts,A1,c1,rfl,hlk,hss,hb1,hb2,hl1,hc,hgs,hcn,_,htl,L,hst⟩
     have hq6:=HI.out.lt
     have h67:=hc.size
     have h6W:=HI.out.qW
     replace HRM:=zhi (HRM.out.keep (fun b hb=>(⟨(z0e HI.out.ss hc b hb.1).1,hb.2⟩:Low6 m W q w6.heap.size w7 b)) (fun b hb=>(z0e HI.out.ss hc b hb.1).2))
     replace HO:=zhi (HO.out.step HI.out.ss hc)
     replace HI:=zhi (HI.out.step hss hc)
     have HQ:Hid (E.Like E1∧0≤b1∧b1≤bud∧(E1.locals.length:Int)+b1≤1000∧GBc E E1 (d'+1) ts∧((ts.map (cntS (d'+1))).sum:Int)≤11 * (bud - b1)):=zhi ⟨hlk,hb1,hb2,hl1,hgs,hcn⟩
     have HST:=zhi hst
     clear hbl hlk hss hb1 hb2 hl1 hc hgs hcn hst hrb Hss
     have e4:=cell_of_row _ _ 4 _ _ _ HI.out.row
     have f4:=z06 HI.out.row 4
     go_upto_region 11 with fail
     have hsg:=z05 w7 ⟨q,4,none⟩ (.slice A1 ts.length c1)
     replace HRM:=zhi (HRM.out.keep (fun b hb=>(⟨(z0s HI.out 4 (.slice A1 ts.length c1) b hb.1).1,hb.2⟩:Low6 m W q w6.heap.size (w7.setCell ⟨q,4,none⟩ (.slice A1 ts.length c1)) b)) (fun b hb=>(z0s HI.out 4 (.slice A1 ts.length c1) b hb.1).2))
     replace HO:=zhi (HO.out.set hsg h8q (z99 HI.out (.slice A1 ts.length c1)))
     replace HST:=zhi (HST.out.set hsg hq6 (z99 HI.out (.slice A1 ts.length c1)))
     have hI8:IfSt W m g l E1 b1 base q #[.int .i64 5,.int .i64 0,.string { data:=#[] },.slice (some ⟨b,0,none⟩) 1 1,.slice A1 ts.length c1,.slice none 0 0] _:=HI.out.set 4 (.slice A1 ts.length c1)
     have h78:=hsg.size
     replace HI:=zhi hI8
     clear e4 f4 hI8 hsg
     generalize w7.setCell ⟨q,4,none⟩ (.slice A1 ts.length c1)=w8 at *
     have e4:=cell_of_row _ _ 4 _ _ _ HI.out.row
     obtain ⟨x0,x1,x2,x3,x4,x5⟩:=cl6 HO.out.row
     have hm6:m<w6.heap.size:=by have:=HI.out.ss.mW; omega
     have hg6:g<w6.heap.size:=by omega
     have hOwn:∀ b,(Value.slice A1 ts.length c1).ownBlock=some b→w6.heap.size≤b∧b<w8.heap.size:=fun b hb=>HST.out.own.lt b hb
     have HOwn:=zhi hOwn
     have hdr:=(Below.refl w8.heap.size w8).drew
     have e4a:=hold ((Below.refl _ w8).alloc (Nat.le_refl _) (.cells #[.int .i64 13,.int .i64 0,.int .i64 0,.int .i64 0,.string s,.slice none 0 0,.int .i64 1,.int .i64 0,.int .i64 1,.int .i64 0,.string { data:=#[] },.slice none 0 0] 112)) e4
     clear hOwn
     go_region_law (first | ((with_reducible refine z4r w4 rfl (.tmp 94) (.tmp 101) rfl m w6.heap.size 3 (d'+1) (.slice A1 ts.length c1) ts L (.mk 2 0 s [.mk 6 3 0 0 ⟨#[]⟩ [.mk 13 0 0 0 s [],.mk 1 0 1 0 ⟨#[]⟩ []]] [] []) 2 0 s (some ⟨b2,0,none⟩) none none 1 1 0 0 0 0 (fun b=>w8.heap.size≤b∧b<w4.heap.size) rfl rfl HST4.out (by omega) (by omega) hm6 (fun b hb=>(HI4.out.ss.ls.lbl b hb).2) HY HF ?_); intro g9 cap9 wx hst9 hg9; have hax:=HI4.out.app hq6 (fun b hb=>⟨(HOwn.out b hb).1,HST4.out.sep b hb⟩) hg9; have HAX:=zhi hax; have HST9:=zhi hst9; have ex4:=cell_of_row _ _ 4 _ _ _ hax.1.row; have fx4:=z06 hax.1.row 4; clear hst9 hg9 hax) | (go_simp; go_at_call 78; (with_reducible refine (z1E 6 3 (some ⟨w8.heap.size,0,none⟩) 2 2 _).mono ?_); rintro e w3 ⟨rfl,hb3⟩; have hw3:=z0b (hdr.alloc (Nat.le_refl _) _) hb3; have ha3:w3.heap[w8.heap.size]?=some (.cells #[.int .i64 13,.int .i64 0,.int .i64 0,.int .i64 0,.string s,.slice none 0 0,.int .i64 1,.int .i64 0,.int .i64 1,.int .i64 0,.string { data:=#[] },.slice none 0 0] 112 (0,0)):=(by with_reducible exact z1p hb3 (z2x rfl)); have e43:=hold hw3 e4; dsimp only) | (go_simp; go_at_call 63; (with_reducible refine (z5i 2 s 6 3 0 0 ⟨#[]⟩ (some ⟨w8.heap.size,0,none⟩) 2 2 _).mono ?_); rintro e w4 ⟨b2,hb21,hb22,rfl,hrb,hb4⟩; have hw4:=z0b hw3 hb4; have ha4:=z1p hb4 ha3; have e44:=hold hw4 e4; have e44a:=hold ((Below.refl _ w4).alloc (Nat.le_refl _) (.cells #[.int .i64 2,.int .i64 0,.string s,.slice (some ⟨b2,0,none⟩) 1 1,.slice none 0 0,.slice none 0 0] 109)) e44; have hch:=HI.out.ss.below hw4; have HST4:=zhi (HST.out.chg hch.2 hm6 hg6); have HI4:=zhi (HI.out.step hch.1 hch.2); have h84:=hw4.size; have HY:=zdC (d:=d') hw3.size ha4 hrb hb21 hb22; have HF:=zdE HOwn.out HI.out.ss hw4 (Nat.le_trans h67 h78); clear hch; dsimp only))
     all_goals
      have hw4c:=(HI.out.ss.below hw4).2
      have hq7:=HI.out.qW
      have hR4:RowE (Low6 m W q w6.heap.size w4) w4 3 [cnd] (some ⟨b,0,none⟩) 1:=HRM.out.keep (fun b hb=>⟨(z0e HI.out.ss hw4c b hb.1).1,hb.2⟩) (fun b hb=>(z0e HI.out.ss hw4c b hb.1).2)
      have hRx:RowE (Low6 m W q w6.heap.size wx) wx 3 [cnd] (some ⟨b,0,none⟩) 1:=hR4.keep (fun b hb=>(HAX.out.2.2 b hb).1) (fun b hb=>(HAX.out.2.2 b hb).2)
      have hRy:RowE (Made m W (wx.setCell ⟨q,4,none⟩ (.slice (some ⟨g9,0,none⟩) (ts.length+1) cap9))) (wx.setCell ⟨q,4,none⟩ (.slice (some ⟨g9,0,none⟩) (ts.length+1) cap9)) 3 [cnd] (some ⟨b,0,none⟩) 1:=hRx.keep (fun b hb=>(z0s HAX.out.1 4 (.slice (some ⟨g9,0,none⟩) (ts.length+1) cap9) b hb.1).1.1) (fun b hb=>(z0s HAX.out.1 4 (.slice (some ⟨g9,0,none⟩) (ts.length+1) cap9) b hb.1).2)
      have hIy:IfSt W m g l E1 b1 base q #[.int .i64 5,.int .i64 0,.string { data:=#[] },.slice (some ⟨b,0,none⟩) 1 1,(.slice (some ⟨g9,0,none⟩) (ts.length+1) cap9),.slice none 0 0] (wx.setCell ⟨q,4,none⟩ (.slice (some ⟨g9,0,none⟩) (ts.length+1) cap9)):=HAX.out.1.set 4 (.slice (some ⟨g9,0,none⟩) (ts.length+1) cap9)
      have hSy:=(HST9.out.set (z05 wx ⟨q,4,none⟩ (.slice (some ⟨g9,0,none⟩) (ts.length+1) cap9)) hq6 (z99 HAX.out.1 (.slice (some ⟨g9,0,none⟩) (ts.length+1) cap9))).row.2
      generalize wx.setCell ⟨q,4,none⟩ (.slice (some ⟨g9,0,none⟩) (ts.length+1) cap9)=wy at *
      have HRW:=zhi hRy
      have HI9:=zhi hIy
      have HTW:Hid (RowS (Made m W wy) wy 3 (d'+1) (ts++[(.mk 2 0 s [.mk 6 3 0 0 ⟨#[]⟩ [.mk 13 0 0 0 s [],.mk 1 0 1 0 ⟨#[]⟩ []]] [] [])]) (some ⟨g9,0,none⟩) cap9):=zhi (hSy.keep (fun b hb=>⟨by have:=hb.1; omega,hb.2.1,hb.2.2⟩) (fun _ _=>rfl))
      clear hw4c hR4 hRx hRy hIy hSy HRM HI HI4 HAX HST9 HST HY HF hw4 hw3 ha3 ha4 hb3 hb4 hrb e4 e4a e43 e44 e44a ex4 fx4 x0 x1 x2 x3 x4 x5 HST4 HO HOwn hdr hb21 hb22 h84
      have HI:=HI9
      obtain ⟨e0,e1,e2,e3,e4,e5⟩:=cl6 HI.out.row
      have Hss:=zhi HI.out.ss
      clear HI HI9
      have HB:=zhi (Hss.out.res HW.out Hls.out)
      go_wp2_with (with_reducible refine z01 ?_)
      refine z08.of (z00 _ rfl _ _ _ rfl w.heap.size _ rfl (by rfl) _ _ HB.out (by kernel_rfl) (by rfl) (by simp [Value.oneCell']) ?_)
      intro w9 hrow hg9
      obtain ⟨k0,k1,k2,k3,k4,k5⟩:=cl6 hrow
      have Hg9:=zhi hg9
      clear hrow hg9
      have HH:Hid (z1d m g l E bud base (d'+1) w (.returned (.agg #[.int .i64 5,.int .i64 0,.string ⟨#[]⟩,.slice (some ⟨b,0,none⟩) 1 1,.slice (some ⟨g9,0,none⟩) (ts.length+1) cap9,.slice none 0 0])) w9):=zhi (zdF Hss.out HW.out Hls.out HQ.out.1 HQ.out.2.1 HQ.out.2.2.1 HQ.out.2.2.2.1 Hg9.out HG.out HS.out HQ.out.2.2.2.2.1 HQ.out.2.2.2.2.2 HRW.out HTW.out)
      go_wp2_with fail
      refine bodyPost_ret ?_ rfl HH.out
      simp [results,Try.results66,go_sem,k0,k1,k2,k3,k4,k5]
end Go.Proofs.Ytleicdfkagejoaa
