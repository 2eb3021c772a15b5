/-
  Md: Ye, Yf, Yb, Yg. Part of the proof. No condition.
-/
import Derived.Test.YtdflbhofmmlpgaaGreatMc
import Derived.Lib.SliceRun
set_option maxRecDepth 100000
set_option maxHeartbeats 8000000
namespace Go.Proofs.YtdflbhofmmlpgaaGreat
open Go.RowKit
theorem z8B (w:World):w.drew.heap.size=w.heap.size:=rfl
theorem z6T (w:World) (o:Obj):(w.alloc o).heap.size=w.heap.size+1:=by simp
theorem z62 {w wc w9:World} {D d b en tn un c g h:Nat} {k z:Int} {L O:NmF} {es:List Ex} {ts us:List St} {A T U:Option Addr} (hen:en=es.length) (htn:tn=ts.length) (hun:un=us.length)
  (hx:RwE D (nL L O es) A c (fun x=>w.heap.size+3<=x/\x<wc.heap.size/\x≠b) wc) (hy:RwG D d (nB L O ts) T g (fun x=>w.heap.size+3<=x/\x<wc.heap.size/\x≠b) wc) (hz:RwG D d (nB L O us) U h (fun x=>w.heap.size+3<=x/\x<wc.heap.size/\x≠b) wc) (hg:wc.grownBy w9 (some (w.heap.size+2))) :
  MSn D (d+1) (fun b=>w.heap.size<=b/\b<w9.heap.size) w9 (.mk k z (nL L O es) (nB L O ts) (nB L O us)) [.int .i64 k,.int .i64 z,.slice A en c,.slice T tn g,.slice U un h]:=by
 have hk:∀ x,(w.heap.size+3<=x/\x<wc.heap.size/\x≠b)->w9.heap[x]?=wc.heap[x]?:=fun x hx=>hg.block x hx.2.1 (fun e=>by injection e with e; omega)
 have hF:∀ x,(w.heap.size+3<=x/\x<wc.heap.size/\x≠b)->(w.heap.size<=x/\x<w9.heap.size):=fun x hx=>⟨by omega,q_1 hx.2.1 hg.size⟩
 exact ⟨A,c,T,g,U,h,by rw [z1G,z1Z,z1Z,hen,htn,hun],z2O _ _ _ _ hF hk hx,z2x _ _ _ _ hF hk hy,z2x _ _ _ _ hF hk hz⟩
theorem zdb {w wc:World} {bl bo kl ko D d en tn un b c g h:Nat} {L O:NmF} {row:Array Value} {k z k2 z2:Int} {es:List Ex} {ts us:List Sn} {A T U:Option Addr} (hb:w.heap.size+3<=b)
  (hrow:wc.heap[b]?=some (.cells #[.int .i64 k,.int .i64 z,.slice A en c,.slice T tn g,.slice U un h] 131 (0,0)))
  (hx:RwE D es A c (fun x=>w.heap.size+3<=x/\x<wc.heap.size/\x≠b) wc) (hy:RwG D d ts T g (fun x=>w.heap.size+3<=x/\x<wc.heap.size/\x≠b) wc) (hz:RwG D d us U h (fun x=>w.heap.size+3<=x/\x<wc.heap.size/\x≠b) wc) (hs:SnZ w bl bo kl ko L O row wc) :
  ∃ W1,W1=(wc.setCell ⟨b,0,none⟩ (.int .i64 k2)).setCell ⟨b,1,none⟩ (.int .i64 z2)/\W1.heap[b]?=some (.cells #[.int .i64 k2,.int .i64 z2,.slice A en c,.slice T tn g,.slice U un h] 131 (0,0)) /\
   RwE D es A c (fun x=>w.heap.size+3<=x/\x<W1.heap.size/\x≠b) W1/\RwG D d ts T g (fun x=>w.heap.size+3<=x/\x<W1.heap.size/\x≠b) W1/\RwG D d us U h (fun x=>w.heap.size+3<=x/\x<W1.heap.size/\x≠b) W1/\SnZ w bl bo kl ko L O row W1:=by
 have hg:wc.grownBy ((wc.setCell ⟨b,0,none⟩ (.int .i64 k2)).setCell ⟨b,1,none⟩ (.int .i64 z2)) (some b):=(z03 wc ⟨b,0,none⟩ _).trans (z03 _ ⟨b,1,none⟩ _);refine ⟨_,rfl,z0a (i:=1) _ (z0a (i:=0) _ hrow),?_,?_,?_,hs.grown hg hb⟩
 ·exact z2O _ _ _ _ (fun x hx=>⟨hx.1,q_1 hx.2.1 hg.size,hx.2.2⟩) (fun x hx=>hg.block x hx.2.1 (fun e=>by injection e with e; exact hx.2.2 e)) hx
 ·exact z2x _ _ _ _ (fun x hx=>⟨hx.1,q_1 hx.2.1 hg.size,hx.2.2⟩) (fun x hx=>hg.block x hx.2.1 (fun e=>by injection e with e; exact hx.2.2 e)) hy
 ·exact z2x _ _ _ _ (fun x hx=>⟨hx.1,q_1 hx.2.1 hg.size,hx.2.2⟩) (fun x hx=>hg.block x hx.2.1 (fun e=>by injection e with e; exact hx.2.2 e)) hz
theorem zeY {F:Nat->Prop} {D d bl bo kl ko en tn un:Nat} {L O:NmF} {k l:Int} {s:Zb} {es:List Ex} {ts us:List St} {eA tA uA:Option Addr} {ec tc uc:Nat} (hB:NbZ D d) (w:World) (hs:s.size<=1000) (hl:MapZ w bl kl L) (ho:MapZ w bo ko O) (hr:RowE F w D es eA ec) (ht:RowS F w D d ts tA tc) (hu:RowS F w D d us uA uc) (hen:en=es.length) (htn:tn=ts.length) (hun:un=us.length)
  (hse:szL es) (hst:szB ts) (hsu:szB us) (he2:en<=1000) (ht2:tn<=1000000) (hu2:un<=1000000) (hF:∀ b,F b->b<w.heap.size) :
  Calls Tryz.prog 52 #[.agg #[.map (some bl),.map (some bo)],.agg #[.int .i64 k,.int .i64 l,.string s,.slice eA en ec,.slice tA tn tc,.slice uA un uc]] w (StZ D d (nS L O (.mk k l s es ts us)) w):=by
 have h0:SnZ w bl bo kl ko L O #[.int .i64 k,.int .i64 l,.string s,.slice eA en ec,.slice tA tn tc,.slice uA un uc] (((w.alloc (.cells #[.map (some bl),.map (some bo)] 99)).alloc (.cells #[.int .i64 k,.int .i64 l,.string s,.slice eA en ec,.slice tA tn tc,.slice uA un uc] 121)).alloc (.cells #[.int .i64 0,.int .i64 0,.slice none 0 0,.slice none 0 0,.slice none 0 0] 131)):=by
  have hb:Below w.heap.size w (((w.alloc (.cells #[.map (some bl),.map (some bo)] 99)).alloc (.cells #[.int .i64 k,.int .i64 l,.string s,.slice eA en ec,.slice tA tn tc,.slice uA un uc] 121)).alloc (.cells #[.int .i64 0,.int .i64 0,.slice none 0 0,.slice none 0 0,.slice none 0 0] 131)) :=
   (((q_i _ w).alloc (q_2 _) _).alloc (by simp) _).alloc (by simp; omega) _
  refine ⟨?_,?_,?_,hl.kept (hb.block _ hl.lt),ho.kept (hb.block _ ho.lt),hb,hl.lt,ho.lt⟩
  ·rw [q_5 _ _ (by simp; omega),q_5 _ _ (by simp)];exact q_4 w _
  ·rw [q_5 _ _ (by simp)];have:=q_4 (w.alloc (.cells #[.map (some bl),.map (some bo)] 99)) (.cells #[.int .i64 k,.int .i64 l,.string s,.slice eA en ec,.slice tA tn tc,.slice uA un uc] 121);simpa using this
  ·have:=q_4 ((w.alloc (.cells #[.map (some bl),.map (some bo)] 99)).alloc (.cells #[.int .i64 k,.int .i64 l,.string s,.slice eA en ec,.slice tA tn tc,.slice uA un uc] 121)) (.cells #[.int .i64 0,.int .i64 0,.slice none 0 0,.slice none 0 0,.slice none 0 0] 131);simpa using this
 have hsm:s.size<=maxLen:=by unfold maxLen; omega
 have HX:Hid (∀ W,SnZ w bl bo kl ko L O #[.int .i64 k,.int .i64 l,.string s,.slice eA en ec,.slice tA tn tc,.slice uA un uc] W->Calls Tryz.prog 73 #[.agg #[.map (some bl),.map (some bo)],.slice eA en ec] W (fun e w3=>∃ A c,e=.returned (.slice A en c)/\RwR w W.heap.size w3.heap.size (RwE D (nL L O es) A c) w3/\SnZ w bl bo kl ko L O #[.int .i64 k,.int .i64 l,.string s,.slice eA en ec,.slice tA tn tc,.slice uA un uc] w3/\Below W.heap.size W w3)):=zhi (fun W hW=>by
  refine (zc3 D F bl bo kl ko L O es eA en ec W (hr.keep (fun _ h=>h) (fun b hb=>hW.lo.block b (hF b hb))) hen hse he2 (fun b hb=>q_1 (hF b hb) hW.lo.size) hW.l hW.o).mono ?_;rintro e w3 ⟨A,m,c,rfl,hm,hr3,hb3⟩;exact ⟨A,c,by rw [hm,z1G,hen],⟨hr3,hW.size,q_2 _⟩,hW.below hb3,hb3⟩)
 have HT:Hid (∀ W,SnZ w bl bo kl ko L O #[.int .i64 k,.int .i64 l,.string s,.slice eA en ec,.slice tA tn tc,.slice uA un uc] W->Calls Tryz.prog 35 #[.agg #[.map (some bl),.map (some bo)],.slice tA tn tc] W (fun e w3=>∃ A c,e=.returned (.slice A tn c)/\RwR w W.heap.size w3.heap.size (RwG D d (nB L O ts) A c) w3/\SnZ w bl bo kl ko L O #[.int .i64 k,.int .i64 l,.string s,.slice eA en ec,.slice tA tn tc,.slice uA un uc] w3/\Below W.heap.size W w3)):=zhi (fun W hW=>by
  refine (hB F bl bo kl ko L O ts tA tn tc W (RowS.keep (fun _ h=>h) (fun b hb=>hW.lo.block b (hF b hb)) ht) htn hst ht2 (fun b hb=>q_1 (hF b hb) hW.lo.size) hW.l hW.o).mono ?_;rintro e w3 ⟨A,m,c,rfl,hm,hr3,hb3⟩;exact ⟨A,c,by rw [hm,z1Z,htn],⟨hr3,hW.size,q_2 _⟩,hW.below hb3,hb3⟩)
 have HU:Hid (∀ W,SnZ w bl bo kl ko L O #[.int .i64 k,.int .i64 l,.string s,.slice eA en ec,.slice tA tn tc,.slice uA un uc] W->Calls Tryz.prog 35 #[.agg #[.map (some bl),.map (some bo)],.slice uA un uc] W (fun e w3=>∃ A c,e=.returned (.slice A un c)/\RwR w W.heap.size w3.heap.size (RwG D d (nB L O us) A c) w3/\SnZ w bl bo kl ko L O #[.int .i64 k,.int .i64 l,.string s,.slice eA en ec,.slice tA tn tc,.slice uA un uc] w3/\Below W.heap.size W w3)):=zhi (fun W hW=>by
  refine (hB F bl bo kl ko L O us uA un uc W (RowS.keep (fun _ h=>h) (fun b hb=>hW.lo.block b (hF b hb)) hu) hun hsu hu2 (fun b hb=>q_1 (hF b hb) hW.lo.size) hW.l hW.o).mono ?_;rintro e w3 ⟨A,m,c,rfl,hm,hr3,hb3⟩;exact ⟨A,c,by rw [hm,z1Z,hun],⟨hr3,hW.size,q_2 _⟩,hW.below hb3,hb3⟩)
 have H0:=zhi h0;have Hen:=zhi hen;have Htn:=zhi htn;have Hun:=zhi hun;clear h0 hl ho hr ht hu hse hst hsu hF hen htn hun hB;go_enter Tryz.func52,Tryz.ntmps52;go_upto_region 1 with fail;obtain ⟨W0,hW0⟩:∃ W0,W0=(((w.alloc (.cells #[.map (some bl),.map (some bo)] 99)).alloc (.cells #[.int .i64 k,.int .i64 l,.string s,.slice eA en ec,.slice tA tn tc,.slice uA un uc] 121)).alloc (.cells #[.int .i64 0,.int .i64 0,.slice none 0 0,.slice none 0 0,.slice none 0 0] 131)):=⟨_,rfl⟩;rw [<- hW0] at H0 ⊢;clear hW0
 go_cut [5] from 8 (fun v wc=>SqZ w bl bo kl ko L O #[.int .i64 k,.int .i64 l,.string s,.slice eA en ec,.slice tA tn tc,.slice uA un uc] D d k ((O s).getD 0) (nL L O es) en (nB L O ts) tn (nB L O us) un v wc)
 case first =>
  rename_i hJ hK;have hsn0:=H0.out;have hsz0:w.heap.size+3<=W0.heap.size:=hsn0.size;have hS0:=z9W hsm hsn0.drew
  go_region_held3 (fun w'=>w'.cell? ⟨w.heap.size,0,none⟩=some (.map (some bl))/\w'.cell? ⟨w.heap.size,1,none⟩=some (.map (some bo))/\w'.cell? ⟨w.heap.size+1,0,none⟩=some (.int .i64 k)/\w'.cell? ⟨w.heap.size+1,2,none⟩=some (.string s)/\w'.cell? ⟨w.heap.size+1,3,none⟩=some (.slice eA en ec)/\w'.cell? ⟨w.heap.size+1,4,none⟩=some (.slice tA tn tc)/\w'.cell? ⟨w.heap.size+1,5,none⟩=some (.slice uA un uc)/\(Instr.lookup 97 (.map (some bo)) (.string s) false).run Tryz.prog w'=.ok (.int .i64 ((O s).getD 0)) w'/\SnZ w bl bo kl ko L O #[.int .i64 k,.int .i64 l,.string s,.slice eA en ec,.slice tA tn tc,.slice uA un uc] w')
   (first | (with_reducible exact hS0) | ((with_reducible refine z9W hsm ?_); (repeat (first | (with_reducible assumption) | (with_reducible refine SnZ.alloc ?_ _) | (with_reducible refine SnZ.drew ?_))); done) | ((with_reducible refine z9W hsm (SnZ.grown ?_ (z4J _ _ _ _ _ _ _) ?_)); (repeat (first | (with_reducible assumption) | (with_reducible refine SnZ.alloc ?_ _))); (try exact hz5.2); done))
   (first
    | (go_at_call 73; (with_reducible refine (HX.out _ ?_).mono ?_); (repeat (first | (with_reducible assumption) | (with_reducible refine SnZ.alloc ?_ _) | (with_reducible refine SnZ.drew ?_))); rintro e w3 ⟨A3,c3,rfl,hx,hsn,hb3⟩; (first | (have hz5:=Z5z.newd (w:=W0) hsz0 hb3) | skip); have hs3:=hb3.size; have hsz:=hsn.size; (try (have kk0:=zcr 0 hz5.1; have kk1:=zcr 1 hz5.1; have kk2:=zcr 2 hz5.1; have kk3:=zcr 3 hz5.1; have kk4:=zcr 4 hz5.1; have kf0:=z09 hz5.1 0; have kf1:=z09 hz5.1 1; have kf2:=z09 hz5.1 2; have kf3:=z09 hz5.1 3; have kf4:=z09 hz5.1 4)))
    | (go_at_call 35; (with_reducible refine (HT.out _ ?_).mono ?_); (repeat (first | (with_reducible assumption) | (with_reducible refine SnZ.alloc ?_ _) | (with_reducible refine SnZ.drew ?_))); rintro e w4 ⟨A4,c4,rfl,hy,hsn,hb4⟩; (first | (have hx:=RwR.below z2O hx hb4) | (have hx:=RwR.below z2O (RwR.alloc z2O hx _) hb4)); have hs4:=hb4.size; (first | (have hz5:=Z5z.below hz5 hb4) | (have hz5:=Z5z.new (by with_reducible assumption) hb4) | skip); have hsz:=hsn.size; (try (have kk0:=zcr 0 hz5.1; have kk1:=zcr 1 hz5.1; have kk2:=zcr 2 hz5.1; have kk3:=zcr 3 hz5.1; have kk4:=zcr 4 hz5.1; have kf0:=z09 hz5.1 0; have kf1:=z09 hz5.1 1; have kf2:=z09 hz5.1 2; have kf3:=z09 hz5.1 3; have kf4:=z09 hz5.1 4)))
    | (go_at_call 35; (with_reducible refine (HU.out _ ?_).mono ?_); (repeat (first | (with_reducible assumption) | (with_reducible refine SnZ.alloc ?_ _) | (with_reducible refine SnZ.drew ?_))); rintro e w5 ⟨A5,c5,rfl,hq,hsn,hb5⟩; (first | (have hx:=RwR.below z2O hx hb5) | (have hx:=RwR.below z2O (RwR.alloc z2O hx _) hb5)); (first | (have hy:=RwR.below z2x hy hb5) | (have hy:=RwR.below z2x (RwR.alloc z2x hy _) hb5)); have hs5:=hb5.size; (first | (have hz5:=Z5z.below hz5 hb5) | (have hz5:=Z5z.new (by with_reducible assumption) hb5) | skip); have hsz:=hsn.size; (try (have kk0:=zcr 0 hz5.1; have kk1:=zcr 1 hz5.1; have kk2:=zcr 2 hz5.1; have kk3:=zcr 3 hz5.1; have kk4:=zcr 4 hz5.1; have kf0:=z09 hz5.1 0; have kf1:=z09 hz5.1 1; have kf2:=z09 hz5.1 2; have kf3:=z09 hz5.1 3; have kf4:=z09 hz5.1 4))))
  all_goals
   dsimp only [Exit.then];refine hK _ _ (Met.intro (hJ _ _ ?_))
   (repeat apply Exists.intro)
   refine ⟨?rel,rfl⟩
   case rel=>first | (with_reducible exact zda hx hy hq hsn) | (simp only [z8B,z6T] at hx hy hq hs3 hs4 hs5 hsz0; (refine zdc hz5 hx hy hq hsn ?_ ?_ ?_ <;> ((try simp only [z8B,z6T]); omega)))
 case rest =>
  obtain ⟨b,A3,c3,T3,g3,U3,h3,rfl,hbs,hrow,hx,hy,hq,hsn⟩:=hcut;have hlk:=hsn.l.lookok s hsm;have p0:=zcr 0 hsn.p;have q2:=zcr 2 hsn.q;have hszc:=hsn.size;have hbc:=(q_0.1 hrow).1;cases hL:(L s).isSome with
  | false =>
   rw [hL] at hlk;obtain ⟨a0,a1,a2,a3,a4⟩:=cl5 hrow;have HXR:=zhi (And.intro hx (And.intro hy hq));have HS:=zhi hsn;have hnS:nS L O (.mk k l s es ts us)=.mk k ((O s).getD 0) (nL L O es) (nB L O ts) (nB L O us):=by
    unfold nS;rw [hL];rfl
   have HN:=zhi hnS;clear hx hy hq hsn hrow HX HT HU H0 hnS hL;go_wp2_with (with_reducible refine z63 ?_);refine z07.of (z00 _ rfl _ _ _ rfl (w.heap.size+2) _ rfl (by rfl) _ _ HS.out.z (by kernel_rfl) (by rfl) (by simp [Value.oneCell']) ?_);intro w9 hrow9 hg9;obtain ⟨j0,j1,j2,j3,j4⟩:=cl5 hrow9;have HH:Hid (StZ D d (nS L O (.mk k l s es ts us)) w (.returned (.agg #[.int .i64 k,.int .i64 ((O s).getD 0),.slice A3 en c3,.slice T3 tn g3,.slice U3 un h3])) w9):=zhi ⟨_,rfl,by
    rw [HN.out];exact z62 Hen.out Htn.out Hun.out HXR.out.1 HXR.out.2.1 HXR.out.2.2 hg9,HS.out.lo.trans (z05 hg9 (fun k hk=>by injection hk with hk; omega) HS.out.lo.size)⟩
   clear hrow9 hg9 a0 a1 a2 a3 a4;go_wp2_with fail;exact q_3 (by simp [results,Tryz.results52,go_sem,j0,j1,j2,j3,j4]) rfl HH.out
  | true =>
   rw [hL] at hlk;obtain ⟨n,hn⟩:=Option.isSome_iff_exists.1 hL;rw [hn] at hlk;obtain ⟨a0,a1⟩:=cl2 hrow;have kf0:=z09 hrow 0;have kf1:=z09 hrow 1;have hnS:nS L O (.mk k l s es ts us)=.mk 1 n (nL L O es) (nB L O ts) (nB L O us):=by
    unfold nS;rw [hn];rfl
   have HN:=zhi hnS;obtain ⟨W1,hW1,hrow1,hx,hy,hq,hsn⟩:=zdb (k2:=1) (z2:=n) hbs hrow hx hy hq hsn;have HS:=zhi hsn;have HXR:=zhi (And.intro hx (And.intro hy hq));have HW1:=zhi hW1;clear hx hy hq hsn hrow HX HT HU H0 hnS hL hn hW1;go_upto_region 5 with fail;rw [<- HW1.out];clear HW1 a0 a1 kf0 kf1 hlk p0 q2;have hszc:=HS.out.size;obtain ⟨a0,a1,a2,a3,a4⟩:=cl5 hrow1;clear hrow1;go_wp2_with (with_reducible refine z63 ?_);refine z07.of (z00 _ rfl _ _ _ rfl (w.heap.size+2) _ rfl (by rfl) _ _ HS.out.z (by kernel_rfl) (by rfl) (by simp [Value.oneCell']) ?_);intro w9 hrow9 hg9;obtain ⟨j0,j1,j2,j3,j4⟩:=cl5 hrow9;have HH:Hid (StZ D d (nS L O (.mk k l s es ts us)) w (.returned (.agg #[.int .i64 1,.int .i64 n,.slice A3 en c3,.slice T3 tn g3,.slice U3 un h3])) w9):=zhi ⟨_,rfl,by
    rw [HN.out];exact z62 Hen.out Htn.out Hun.out HXR.out.1 HXR.out.2.1 HXR.out.2.2 hg9,HS.out.lo.trans (z05 hg9 (fun k hk=>by injection hk with hk; omega) HS.out.lo.size)⟩
   clear hrow9 hg9 a0 a1 a2 a3 a4;go_wp2_with fail;exact q_3 (by simp [results,Tryz.results52,go_sem,j0,j1,j2,j3,j4]) rfl HH.out
theorem zcP:(Tryz.prog.info? 131).map (fun i=>(i.zero,i.size,i.bytes))=some (some (.agg #[.int .i64 0,.int .i64 0,.slice none 0 0,.slice none 0 0,.slice none 0 0]),5,88):=by kernel_rfl
theorem z9j {D d:Nat} {F:Nat->Prop} {w:World} {x:Sn} {cs:List Value} (h:MSn D (d+1) F w x cs):∃ k n A m c T mt g U mu h,cs=[.int .i64 k,.int .i64 n,.slice A m c,.slice T mt g,.slice U mu h]:=by
 obtain ⟨k,n,es,ts,us⟩:=x;obtain ⟨eA,ec,tA,tc,uA,uc,e,_⟩:=h;exact ⟨_,_,_,_,_,_,_,_,_,_,_,e⟩
def BzR (D d:Nat) (L O:NmF) (ts:List St) (w:World) (v i:Value) (wr:World):Prop:=∃ ys zs R,ts=ys++zs/\i=.int .i64 (ys.length:Int)/\GRow 5 131 (MSn D d) w.heap.size wr v (nB L O ys) R/\Below w.heap.size w wr
theorem z9l {D d:Nat} (hE:∀ d',d=d'+1->NbZ D d'):NbZ D d:=by
 intro F bl bo kl ko L O ts A n c w h hn hf hn2 hF he ho;have hc:n<=c:=by rw [hn]; exact h.1
 have hb0:=(q_i _ w).alloc (q_2 _) (.cells #[.map (some bl),.map (some bo)] 99);have hrow0:=q_4 w (.cells #[.map (some bl),.map (some bo)] 99);have hlt0:=(q_0.1 hrow0).1;have Hn:=zhi hn;have H:=zhi (RowS.keep (G:=F) (fun _ h=>h) (fun b hb=>hb0.block b (hF b hb)) h);have HF:=zhi (fun b hb=>q_1 (hF b hb) hb0.size);have Hf:=zhi hf;have HE:=zhi hE;have hbl:=q_1 he.lt hb0.size;have hbo:=q_1 ho.lt hb0.size;have HM:=zhi (he.kept (hb0.block _ he.lt));have HO:=zhi (ho.kept (hb0.block _ ho.lt));have HRow0:=zhi hrow0;have HB0:=zhi hb0;have hs0:=hb0.size;clear hn h hf hF hE he ho hb0 hrow0;go_enter Tryz.func35,Tryz.ntmps35;go_wp2_with fail;obtain ⟨W,hW⟩:∃ W,W=w.alloc (.cells #[.map (some bl),.map (some bo)] 99):=⟨_,rfl⟩;rw [<- hW] at H HF HM HO HRow0 HB0 hs0 hlt0 hbl hbo ⊢;clear hW
 go_loopw [4,9] (fun v i wr=>BzR D d L O ts W v i wr) (fun _ i _=>n - (intOf i).toNat)
 case atStart=>exact ⟨[],ts,[],rfl,rfl,GRow.nil,q_i _ _⟩
 case round =>
  obtain ⟨wo,rfl⟩:∃ wo:World,wo=wr:=⟨_,rfl⟩;obtain ⟨ys,zs,R,hts,rfl,hgr,hb⟩:=hrel;obtain ⟨vA,vc,rfl⟩:=z0x hgr.own;have hlm:(nB L O ys).length=ys.length:=z1Z ys;rw [hlm] at hgr ⊢;clear hlm;have hyn:ys.length<=n:=by rw [Hn.out,hts]; simp
  have HB:=zhi hb;have HGR:=zhi hgr;have HTS:=zhi hts;have hszB:=hb.size;clear hb hgr;cases zs with
  | nil =>
   have hyn2:n<=ys.length:=by rw [Hn.out,hts]; simp
   have HR:Hid (BlZ D d (nB L O ts) w (.returned (.slice vA ys.length vc)) wo):=zhi ⟨vA,_,vc,rfl,by rw [hts]; simp [z1Z],by
    have hg:=HGR.out;rw [<- z1Z (L:=L) (O:=O) ys] at hg;have:=(hg.row (z0P D d)).2;rw [hts,List.append_nil];exact z0j (z0P D d) (fun b hb=>⟨q_9 hs0 hb.1,hb.2⟩) (fun _ _=>rfl) this,HB0.out.trans (HB.out.mono hs0)⟩
   clear hts HGR;go_wp2_with fail;go_ret;exact HR.out
  | cons z zs =>
   have hlt:ys.length<n:=by rw [Hn.out,hts]; simp
   have hz:ts[ys.length]?=some z:=by rw [hts]; simp
   cases d with
   | zero =>
    have:=z2u H.out;rw [this] at hz;cases hz
   | succ d =>
   obtain ⟨g,off,k,l,s,es,us,vs,eA,ec,tA,tc,uA,uc,rfl,rfl,hFg,e0,e1,e2,e3,e4,e5,r1,r2,r3⟩:=z28 H.out hz;obtain ⟨⟨z1,z2,z3,z4⟩,z5,z6,z7⟩:=zc7 Hf.out hz;have hko:∀ o,World.cell? wo ⟨g,o,none⟩=World.cell? W ⟨g,o,none⟩:=fun o=>q_6 (HB.out.block g (HF.out g hFg))
   have d0:=(hko _).trans e0;have d1:=(hko _).trans e1;have d2:=(hko _).trans e2;have d3:=(hko _).trans e3;have d4:=(hko _).trans e4;have d5:=(hko _).trans e5;have hc1:=r1.1;have hc2:=r2.1;have hc3:=r3.1;have hb1:=(q_i _ wo).alloc (q_2 _) (.cells #[.int .i64 k,.int .i64 l,.string s,.slice eA es.length ec,.slice tA us.length tc,.slice uA vs.length uc] 121);have hX1:=q_4 wo (.cells #[.int .i64 k,.int .i64 l,.string s,.slice eA es.length ec,.slice tA us.length tc,.slice uA vs.length uc] 121);have hk1:∀ b,F b->(wo.alloc (.cells #[.int .i64 k,.int .i64 l,.string s,.slice eA es.length ec,.slice tA us.length tc,.slice uA vs.length uc] 121)).heap[b]?=W.heap[b]?:=fun b hb=>(hb1.block b (q_1 (HF.out b hb) hszB)).trans (HB.out.block b (HF.out b hb))
   have hN1:=(hb1.block _ (q_1 hlt0 hszB)).trans ((HB.out.block _ hlt0).trans HRow0.out);obtain ⟨n0,n1⟩:=cl2 hN1;have HC:=zhi (zeY (F:=F) (D:=D) (d:=d) (k:=k) (l:=l) (s:=s) (es:=es) (ts:=us) (us:=vs) (HE.out d rfl) (wo.alloc (.cells #[.int .i64 k,.int .i64 l,.string s,.slice eA es.length ec,.slice tA us.length tc,.slice uA vs.length uc] 121)) z1 ((HM.out.kept (HB.out.block _ hbl)).kept (hb1.block _ (q_1 hbl hszB))) ((HO.out.kept (HB.out.block _ hbo)).kept (hb1.block _ (q_1 hbo hszB))) (RowE.keep (G:=F) (fun _ h=>h) hk1 r1) (RowS.keep (G:=F) (fun _ h=>h) hk1 r2) (RowS.keep (G:=F) (fun _ h=>h) hk1 r3) rfl rfl rfl z5 z6 z7 z2 z3 z4 (fun b hb=>q_1 (q_1 (HF.out b hb) hszB) hb1.size));obtain ⟨x0,x1,x2,x3,x4,x5⟩:=cl6 hX1;have hsz1:wo.heap.size<=(wo.alloc (.cells #[.int .i64 k,.int .i64 l,.string s,.slice eA es.length ec,.slice tA us.length tc,.slice uA vs.length uc] 121)).heap.size:=hb1.size;have HB1:=zhi hb1;clear hts hz hb1 hX1 hFg hN1 e0 e1 e2 e3 e4 e5 r1 r2 r3 hko hk1 z5 z6 z7;obtain ⟨m,hm⟩:∃ m,m=es.length:=⟨_,rfl⟩;obtain ⟨mt,hmt⟩:∃ m,m=us.length:=⟨_,rfl⟩;obtain ⟨mu,hmu⟩:∃ m,m=vs.length:=⟨_,rfl⟩;rw [<- hm] at d3 HC hsz1 HB1 x0 x1 x2 x3 x4 x5 n0 n1 hc1 z2;rw [<- hmt] at d4 HC hsz1 HB1 x0 x1 x2 x3 x4 x5 n0 n1 hc2 z3;rw [<- hmu] at d5 HC hsz1 HB1 x0 x1 x2 x3 x4 x5 n0 n1 hc3 z4;clear hm hmt hmu;go_upto_region 4 with fail;obtain ⟨W1,hW1⟩:∃ W1,W1=wo.alloc (.cells #[.int .i64 k,.int .i64 l,.string s,.slice eA m ec,.slice tA mt tc,.slice uA mu uc] 121):=⟨_,rfl⟩;rw [<- hW1] at HC hsz1 HB1 x0 x1 x2 x3 x4 x5 n0 n1 ⊢;clear hW1 d0 d1 d2 d3 d4 d5;go_wp2_with fail;refine HC.out.mono ?_;rintro e w3 ⟨cs3,rfl,hx3,hb3⟩;obtain ⟨k3,n3,A3,m3,c3,T3,mt3,g3,U3,mu3,h3,hcs⟩:=z9j hx3;have hcs2:cs3=#[.int .i64 k3,.int .i64 n3,.slice A3 m3 c3,.slice T3 mt3 g3,.slice U3 mu3 h3]:=by
    rw [<- Array.toList_inj,hcs]
   subst hcs2;have hs3:=hb3.size;have HB3:=zhi (HB1.out.trans (hb3.mono hsz1));have hown:=HGR.out.own;have HOU:=zhi (fun b hb=>(hown.lt b hb).2);have HGR3:=zhi (z15 (z0P D (d+1)) HGR.out HB3.out);have HV3:Hid (MSn D (d+1) (fun b=>wo.heap.size<=b/\b<w3.heap.size) w3 (nS L O (.mk k l s es us vs)) [.int .i64 k3,.int .i64 n3,.slice A3 m3 c3,.slice T3 mt3 g3,.slice U3 mu3 h3]):=zhi (z0P D (d+1) _ _ _ _ _ _ (fun b hb=>⟨q_9 hsz1 hb.1,hb.2⟩) (fun _ _=>rfl) hx3);have HB4:=zhi (HB.out.trans (HB3.out.mono hszB));clear hx3 hb3 hown HC HGR HB HB1 HB3 x0 x1 x2 x3 x4 x5 n0 n1 hcs hc1 hc2 hc3;go_wp2_with (at_builtin; refine z07.out ?_);refine z07.of (z1T (k:=5) (T:=131) (S:=100) (V:=MSn D (d+1)) w3 rfl (.tmp 13) (.tmp 17) rfl (z0P D (d+1)) _ _ Tryz.underlying100 zcP rfl (by decide) (by decide) W.heap.size (.slice vA ys.length vc) (nB L O ys) R (nS L O (.mk k l s es us vs)) [.int .i64 k3,.int .i64 n3,.slice A3 m3 c3,.slice T3 mt3 g3,.slice U3 mu3 h3] (fun b=>wo.heap.size<=b/\b<w3.heap.size) rfl rfl HGR3.out (by rw [z1Z]; omega) (by omega) rfl (by simp [Value.oneCell']) HV3.out (fun b hb=>⟨by omega,hb.2,fun e=>by have:=HOU.out b e; omega⟩) ?_);intro g9 cap9 w9 har9 hg9;have hlm:(nB L O ys).length=ys.length:=z1Z ys;rw [hlm] at har9 ⊢;have HS9:Hid (BzR D (d+1) L O ts W (.slice (some ⟨g9,0,none⟩) (ys.length+1) cap9) (.int .i64 ((ys.length:Int)+1)) w9):=zhi ⟨ys++[.mk k l s es us vs],zs,_,by rw [HTS.out]; simp,by simp,by rw [zbY]; exact har9,HB4.out.trans (z3j (w:=W) HGR3.out.own hg9 (q_2 _) (by omega))⟩;clear har9 hg9 HGR3 HB4 HV3 HOU hlm;go_wp2_with fail;exact ⟨HS9.out,by simp [intOf]; omega⟩
theorem zc0 (D:Nat):∀ d:Nat,NbZ D d
 | 0=>z9l (fun d' h=>by cases h)
 | d+1=>z9l (fun d' h=>by
  injection h with h;subst h;exact zc0 D d)
theorem z3C {ops:Array Oper} {rest:List Oper} {o:Oper} {a:Act} {Q:Exit->Act->World->Prop} (w:World) (hgd:o.guard=none) (s x:Operand)
  (ho:o.op=.call { callee:=.builtin .append,args:=#[s,x],argTypes:=#[80,80] }) (base:Nat) (v:Value) (ls:List Zb) (n:Zb)
  (hs:a.eval s=v) (hx:a.eval x=.slice (some ⟨w.heap.size,0,none⟩) 1 1) (h:w.ownsRow base 9 1 v ls.length (ls.map Value.string)) (hlen:ls.length<=1000000) (hbase:base<=w.heap.size)
  (hk:∀ g cap w',w'.ownsRow base 9 1 (.slice (some ⟨g,0,none⟩) (ls.length+1) cap) (ls++[n]).length ((ls++[n]).map Value.string)->w.grownBy w' v.ownBlock->(v.ownBlock=some g\/w.heap.size<=g)->wpList Tryz.prog ops Q rest (a.put o.dst (.slice (some ⟨g,0,none⟩) (ls.length+1) cap)) w') :
  wpList Tryz.prog ops Q (o :: rest) a (w.alloc (.cells #[.string n] 9)):=by
 obtain ⟨i,hi,hz,hsz,hby⟩:=info_parts z30;refine wpList_append_lies _ hgd s x _ ho base 9 i _ 1 16 Tryz.underlying80 hi hz hsz hby rfl (by decide) v ls.length _ hs (h.alloc _) ⟨w.heap.size,0,none⟩ 1 1 [.string n] hx (by simp) ?_ ?_ (by decide) (by unfold maxLen; omega) (by omega) (by simp; omega) _ rfl fun g cap w' h1 h2 h3 _=>hk g cap w' (by simpa using h1) ((World.grownBy_alloc _ _ _).trans h2) (h3.imp id (fun e=>by rw [e]; simp))
 ·intro j u hu;rw [Addr.add_lit,Nat.zero_add];exact (zcr _ (q_4 w _)).trans (by simpa using hu)
 ·intro u hu;simp at hu;subst hu;rfl
def NmK (v:Value) (base:Nat) (ls:List Zb) (w:World) (e:Ending) (w':World):Prop :=
 ∃ A m c,e=.returned (.slice A m c)/\m=ls.length/\w'.ownsRow base 9 1 (.slice A m c) ls.length (ls.map Value.string)/\w.grownBy w' v.ownBlock/\(∀ b,(Value.slice A m c).ownBlock=some b->v.ownBlock=some b\/w.heap.size<=b)
def UpK (v u:Value) (w w':World):Prop:=w.grownBy w' v.ownBlock/\∀ b,u.ownBlock=some b->v.ownBlock=some b\/w.heap.size<=b
theorem UpK.refl {v:Value} {w:World}:UpK v v w w:=⟨⟨rfl,rfl,rfl,q_2 _,fun _ _ _=>rfl⟩,fun _ e=>.inl e⟩
theorem UpK.trans {v u x:Value} {w w1 w2:World} (h:UpK v u w w1) (k:UpK u x w1 w2):UpK v x w w2 :=
 ⟨⟨k.1.os.trans h.1.os,k.1.tape.trans h.1.tape,k.1.output.trans h.1.output,q_9 h.1.size k.1.size,fun b hb hne=>(k.1.block b (q_1 hb h.1.size) (fun e=>by
   rcases h.2 b e.symm with e2 | e2
   ·exact hne e2.symm
   ·omega)).trans (h.1.block b hb hne)⟩,fun b e=>by
  rcases k.2 b e with e2 | e2
  ·exact h.2 b e2
  ·exact .inr (q_9 h.1.size e2)⟩
theorem UpK.below {v u:Value} {w w1 w2:World} (h:UpK v u w w1) (hb:Below w1.heap.size w1 w2):UpK v u w w2:=⟨h.1.trans (z02 hb _),h.2⟩
theorem UpK.at_ {v u:Value} {w w':World} {b:Nat} {o:Obj} (h:UpK v u w w') (hb:w.heap[b]?=some o) (hne:v.ownBlock≠some b):w'.heap[b]?=some o:=(h.1.block b (q_0.1 hb).1 (fun e=>hne e.symm)).trans hb
theorem UpK.low {v u:Value} {w w':World} {base n size:Nat} {T:TypeId} {xs:List Value} (h:UpK v u w w') (ho:w.ownsRow base T size v n xs) (hbs:base<=w.heap.size):Below base w w':=z05 h.1 (fun k hk=>(ho.lt k hk).1) hbs
def zcm (d:Nat):Prop:=∀ (F:Nat->Prop) (D base:Nat) (ls:List Zb) (lA:Option Addr) (ln lc:Nat) (ts:List St) (A:Option Addr) (n c:Nat) (w:World),n=ts.length->ln=ls.length->w.ownsRow base 9 1 (.slice lA ln lc) ls.length (ls.map Value.string)->base<=w.heap.size->RowS F w D d ts A c->(∀ b,F b->b<base)->fwB ts->n<=1000000->ls.length+(vrL ts).length<=100000 ->
 Calls Tryz.prog 50 #[.slice lA ln lc,.slice A n c] w (NmK (.slice lA ln lc) base (ls++vrL ts) w)
theorem zac {d:Nat} (hE:∀ d',d=d'+1->zcm d'):zcm d:=by
 intro F D base ls lA ln lc ts A n c w hn hln hown hbs h hF hf hn2 hnt;have hc:n<=c:=by rw [hn]; exact h.1
 have HE:=zhi hE;have Hn:=zhi hn;have H:=zhi h;have Hf:=zhi hf;have HF:=zhi hF;have Hnt:=zhi hnt;have Hown:=zhi hown;subst hln;clear hn h hf hE hnt hF hown;go_enter Tryz.func50,Tryz.ntmps50;go_wp2_with fail
 go_loopw [0,9] (fun v i wr=>∃ (ys zs:List St) (ms:List Zb) (mA:Option Addr) (mn mc k:Nat),v=.slice mA mn mc/\i=.int .i64 (k:Int)/\Hid (ts=ys++zs/\ms=ls++vrL ys/\k=ys.length/\mn=ms.length)/\Hid (wr.ownsRow base 9 1 (.slice mA mn mc) ms.length (ms.map Value.string))/\Hid (UpK (.slice lA ls.length lc) (.slice mA mn mc) w wr)) (fun _ i _=>n - (intOf i).toNat)
 case atStart=>exact ⟨[],ts,ls,lA,_,lc,0,rfl,rfl,zhi ⟨rfl,by simp [vrL],rfl,rfl⟩,Hown,zhi UpK.refl⟩
 case round =>
  obtain ⟨ys,zs,ms,mA,mn,mc,k,rfl,rfl,HM,HO,HU⟩:=hrel;cases zs with
  | nil =>
   have hk:n<=k:=by rw [Hn.out,HM.out.2.2.1,HM.out.1]; simp
   have HR:Hid (NmK (.slice lA ls.length lc) base (ls++vrL ts) w (.returned (.slice mA mn mc)) wr):=zhi ⟨mA,mn,mc,rfl,by rw [HM.out.2.2.2,HM.out.2.1,HM.out.1,List.append_nil],by have h:=HO.out; rw [HM.out.2.1] at h; rw [HM.out.1,List.append_nil]; exact h,HU.out⟩;go_wp2_with fail;go_ret;exact HR.out
  | cons z zs =>
   have hlt:k<n:=by rw [Hn.out,HM.out.2.2.1,HM.out.1]; simp
   have hz:ts[k]?=some z:=by rw [HM.out.2.2.1,HM.out.1]; simp
   cases d with
   | zero =>
    have:=z2u H.out;rw [this] at hz;cases hz
   | succ d' =>
    obtain ⟨g,off,kk,l,s,es,us,vs,eA,ec,tA,tc,uA,uc,rfl,rfl,hFg,e0,e1,e2,e3,e4,e5,r1,r2,r3⟩:=z28 H.out hz;obtain ⟨⟨f1,f2⟩,f3,f4⟩:=z71 Hf.out hz;have hcnt:ls.length+(vrL ys).length+((if kk=1 then [s] else []).length+(vrL us).length+(vrL vs).length)<=100000:=by
     have:=Hnt.out;rw [HM.out.1,z2U] at this;have e:vrL (St.mk kk l s es us vs :: zs)=(if kk=1 then [s] else [])++vrL us++vrL vs++vrL zs:=rfl;rw [e] at this;simp only [List.length_append] at this;omega
    have hms:ms.length=ls.length+(vrL ys).length:=by rw [HM.out.2.1]; simp
    have hlow:=HU.out.low Hown.out hbs;have hk6:∀ o,wr.cell? ⟨g,o,none⟩=w.cell? ⟨g,o,none⟩:=fun o=>q_6 (hlow.block g (HF.out g hFg))
    have d0:=(hk6 _).trans e0;have d1:=(hk6 _).trans e1;have d2:=(hk6 _).trans e2;have d3:=(hk6 _).trans e3;have d4:=(hk6 _).trans e4;have d5:=(hk6 _).trans e5;obtain ⟨O,hO⟩:∃ O,O=Obj.cells #[.int .i64 kk,.int .i64 l,.string s,.slice eA es.length ec,.slice tA us.length tc,.slice uA vs.length uc] 121 (0,0):=⟨_,rfl⟩;have hb1:=(q_i _ wr).alloc (q_2 _) (.cells #[.int .i64 kk,.int .i64 l,.string s,.slice eA es.length ec,.slice tA us.length tc,.slice uA vs.length uc] 121);have hX1:=q_4 wr (.cells #[.int .i64 kk,.int .i64 l,.string s,.slice eA es.length ec,.slice tA us.length tc,.slice uA vs.length uc] 121);have hU1:=HU.out.below hb1;have hO1:(wr.alloc (.cells #[.int .i64 kk,.int .i64 l,.string s,.slice eA es.length ec,.slice tA us.length tc,.slice uA vs.length uc] 121)).ownsRow base 9 1 (.slice mA mn mc) ms.length (ms.map Value.string):=HO.out.alloc _;have hmX:(Value.slice mA mn mc).ownBlock≠some wr.heap.size:=fun e=>by have:=(HO.out.lt _ e).2; omega
    have hwr:w.heap.size<=wr.heap.size:=HU.out.1.size;have HT:Hid (∀ (W:World) (ns:List Zb) (nA:Option Addr) (nn nc:Nat),Below base w W->nn=ns.length->W.ownsRow base 9 1 (.slice nA nn nc) ns.length (ns.map Value.string)->ns.length+(vrL us).length<=100000->Calls Tryz.prog 50 #[.slice nA nn nc,.slice tA us.length tc] W (NmK (.slice nA nn nc) base (ns++vrL us) W)):=zhi (fun W ns nA nn nc hb hnn ho hl=>HE.out d' rfl F D base ns nA nn nc us tA us.length tc W rfl hnn ho (q_9 hbs hb.size) (RowS.keep (w:=w) (fun _ h=>h) (fun b hb'=>hb.block b (HF.out b hb')) r2) HF.out f3 f1 hl);have HV:Hid (∀ (W:World) (ns:List Zb) (nA:Option Addr) (nn nc:Nat),Below base w W->nn=ns.length->W.ownsRow base 9 1 (.slice nA nn nc) ns.length (ns.map Value.string)->ns.length+(vrL vs).length<=100000->Calls Tryz.prog 50 #[.slice nA nn nc,.slice uA vs.length uc] W (NmK (.slice nA nn nc) base (ns++vrL vs) W)):=zhi (fun W ns nA nn nc hb hnn ho hl=>HE.out d' rfl F D base ns nA nn nc vs uA vs.length uc W rfl hnn ho (q_9 hbs hb.size) (RowS.keep (w:=w) (fun _ h=>h) (fun b hb'=>hb.block b (HF.out b hb')) r3) HF.out f4 f2 hl);have HX2:Hid (ts=(ys++[St.mk kk l s es us vs])++zs/\vrL (ys++[St.mk kk l s es us vs])=vrL ys++((if kk=1 then [s] else [])++vrL us++vrL vs)/\k+1=(ys++[St.mk kk l s es us vs]).length):=zhi ⟨by rw [HM.out.1]; simp,by rw [z2U]; simp [vrL,vrS],by rw [HM.out.2.2.1]; simp⟩;have Hcnt:=zhi hcnt;have Hms:=zhi hms;have hmle:ms.length<=100000:=by omega
    have Hmn:=zhi HM.out.2.2.2;have HXa:=zhi hX1;have HU1:=zhi hU1;have HO1:=zhi hO1;have HmX:=zhi hmX;obtain ⟨un,hun⟩:∃ un,un=us.length:=⟨_,rfl⟩;obtain ⟨vn,hvn⟩:∃ vn,vn=vs.length:=⟨_,rfl⟩;obtain ⟨en,hen⟩:∃ en,en=es.length:=⟨_,rfl⟩;rw [<- hun] at d4 HXa HU1 HO1 HT;rw [<- hvn] at d5 HXa HU1 HO1 HV;rw [<- hen] at d3 HXa HU1 HO1;clear e0 e1 e2 e3 e4 e5 r1 r2 r3 f1 f2 f3 f4 hz hFg hcnt hms hlow hk6 hb1 hX1 hU1 hO1 hmX hO O hun hvn hen HU HO;go_upto_region 4 with fail;obtain ⟨W1,hW1⟩:∃ W1,W1=wr.alloc (.cells #[.int .i64 kk,.int .i64 l,.string s,.slice eA en ec,.slice tA un tc,.slice uA vn uc] 121):=⟨_,rfl⟩;rw [<- hW1] at HXa HU1 HO1 ⊢;clear hW1 d0 d1 d2 d3 d4 d5;have hW1s:wr.heap.size<W1.heap.size:=(q_0.1 HXa.out).1;have x0:=zcr 0 HXa.out;have x2:=zcr 2 HXa.out;have i1:(0:Int)<=(k:Int):=by omega
    have i2:(k:Int)<(n:Int):=by omega
    go_upto_if 15 with fail
    go_cut [0] from 10 to 29 (fun v wd=>∃ (ns:List Zb) (nA:Option Addr) (nn nc:Nat),v=.slice nA nn nc/\nn=ns.length/\ns=ms++(if kk=1 then [s] else [])/\wd.ownsRow base 9 1 (.slice nA nn nc) ns.length (ns.map Value.string)/\UpK (.slice mA mn mc) (.slice nA nn nc) W1 wd)
    case first =>
     by_cases h1:kk=1
     ·subst h1;go_wp2_with (at_builtin; refine z07.out ?_);refine z07.of (z3C W1 rfl (.tmp 16) (.tmp 19) rfl base (.slice mA mn mc) ms s rfl rfl HO1.out (by omega) (by have:=HU1.out.1.size; omega) ?_);intro g8 cap8 w8 ho8 hg8 hat8;have HO8:=zhi ho8;have HU8:Hid (UpK (.slice mA mn mc) (.slice (some ⟨g8,0,none⟩) (ms.length+1) cap8) W1 w8):=zhi ⟨hg8,fun b e=>by
       have e':g8=b:=by simpa [Value.ownBlock] using e
       subst e';exact hat8⟩
      clear ho8 hg8 hat8;go_wp2_with fail
      go_meet
      case rel=>exact ⟨ms++[s],_,_,_,rfl,by simp,by simp,HO8.out,HU8.out⟩
     ·have h1b:(kk == 1)=false:=by simpa using h1
      have H1:=zhi h1;clear h1;go_wp2_with fail
      go_meet
      case rel=>exact ⟨ms,_,_,_,rfl,Hmn.out,by rw [if_neg H1.out,List.append_nil],HO1.out,UpK.refl⟩
    case rest =>
     obtain ⟨ns,nA,nn,nc,rfl,hnn,hns,hno,hup⟩:=hcut;have hnl:ns.length+(vrL us).length<=100000/\(ns++vrL us).length+(vrL vs).length<=100000:=by
      have e:ns.length=ms.length+(if kk=1 then [s] else []).length:=by rw [hns]; simp
      rw [List.length_append,e,Hms.out];have:=Hcnt.out;omega
     have HNL:=zhi hnl;have HUc:=zhi (HU1.out.trans hup);have hXc:=hup.at_ HXa.out HmX.out;have HNS:=zhi hns;have HC1:=zhi (HT.out _ ns nA nn nc (HUc.out.low Hown.out hbs) hnn hno HNL.out.1);have hnX:(Value.slice nA nn nc).ownBlock≠some wr.heap.size:=fun e=>by
      rcases hup.2 _ e with e2 | e2
      ·exact HmX.out e2
      ·omega
     have HnX:=zhi hnX;have HXc:=zhi hXc;have y4:=zcr 4 hXc;have HUp:=zhi hup;clear hnn hnl hns hno hup hXc hnX x0 x2 HT;go_wp2_with fail;refine HC1.out.mono ?_;rintro e w2 ⟨A2,m2,c2,rfl,hm2,ho2,hg2,ha2⟩;have hu2:UpK (.slice nA nn nc) (.slice A2 m2 c2) _ w2:=⟨hg2,ha2⟩;have HUc2:=zhi (HUc.out.trans hu2);have hX2:=hu2.at_ HXc.out HnX.out;have HC2:=zhi (HV.out _ (ns++vrL us) A2 m2 c2 (HUc2.out.low Hown.out hbs) hm2 ho2 HNL.out.2);have hwc:wr.heap.size<wc.heap.size:=(q_0.1 HXc.out).1;have hnX2:(Value.slice A2 m2 c2).ownBlock≠some wr.heap.size:=fun e=>by
      rcases ha2 _ e with e2 | e2
      ·exact HnX.out e2
      ·omega
     have y5:=zcr 5 hX2;clear hm2 ho2 hg2 ha2 hu2 hX2 y4 HC1 HV HXc;go_wp2_with fail;refine HC2.out.mono ?_;rintro e w3 ⟨A3,m3,c3,rfl,hm3,ho3,hg3,ha3⟩;have HR:Hid (∃ (ys' zs':List St) (ms':List Zb) (mA':Option Addr) (mn' mc' k':Nat),Value.slice A3 m3 c3=.slice mA' mn' mc'/\Value.int .i64 ((k:Int)+1)=.int .i64 (k':Int)/\Hid (ts=ys'++zs'/\ms'=ls++vrL ys'/\k'=ys'.length/\mn'=ms'.length)/\Hid (w3.ownsRow base 9 1 (.slice mA' mn' mc') ms'.length (ms'.map Value.string))/\Hid (UpK (.slice lA ls.length lc) (.slice mA' mn' mc') w w3)):=zhi ⟨ys++[St.mk kk l s es us vs],zs,ns++vrL us++vrL vs,A3,m3,c3,k+1,rfl,by go_num,zhi ⟨HX2.out.1,by rw [HNS.out,HM.out.2.1,HX2.out.2.1]; simp only [List.append_assoc],HX2.out.2.2,hm3⟩,zhi ho3,zhi (HUc2.out.trans ⟨hg3,ha3⟩)⟩;clear hm3 ho3 hg3 ha3 y5 HC2;go_wp2_with fail;exact ⟨HR.out,by simp [intOf]; omega⟩
theorem z64:∀ d:Nat,zcm d
 | 0=>zac (fun _ h=>by omega)
 | d+1=>zac (fun d' h=>by
   have e:d=d':=by omega
   rw [<- e];exact z64 d)
theorem z5k {S T:TypeId} (W:World) (ty:TypeId) (i:TypeInfo) (ht:Tryz.prog.underlying S=some (.slice T)) (hi:Tryz.prog.info? T=some i) (b:Addr) (pA:Option Addr) (pc:Nat):(Builtin.append_ #[S,S] ty #[.slice (some b) 0 0,.slice pA 0 pc]).run Tryz.prog W=.ok (.slice (some b) 0 0) W:=by
 cases pA <;> simp [Builtin.append_,run_underlying ht,sizeOf,typeInfo,hi,Builtin.lenOf,Builtin.firstCells,loadCells,loadCellsFrom,storeCells]
theorem z5j {F:Nat->Prop} {w:World} (ty:TypeId) (ps:List Zb) (pA:Option Addr) (n pc:Nat) (hn:n=ps.length) (hp:z0l F w ps pA pc) (hF:∀ b,F b->b<w.heap.size) (hlen:n<=1000) :
  ∃ lA lc w',(Builtin.append_ #[80,80] ty #[.slice (some ⟨w.heap.size,0,none⟩) 0 0,.slice pA n pc]).run Tryz.prog (w.alloc (.cells #[] 9))=.ok (.slice lA n lc) w'/\w'.ownsRow w.heap.size 9 1 (.slice lA n lc) ps.length (ps.map Value.string)/\Below w.heap.size w w':=by
 subst hn;obtain ⟨i,hi,hz,hsz,hby⟩:=info_parts z30;have hnew:=q_4 w (.cells #[] 9);have hb:=(q_i _ w).alloc (q_2 _) (.cells #[] 9);have hown:(w.alloc (.cells #[] 9)).ownsRow w.heap.size 9 1 (.slice (some ⟨w.heap.size,0,none⟩) 0 0) 0 []:=⟨rfl,.inr ⟨w.heap.size,0,#[],rfl,q_2 _,hnew,q_2 _,q_h _,rfl,rfl⟩⟩;rcases Nat.eq_zero_or_pos ps.length with h0 | hpos
 ·refine ⟨_,_,_,by rw [h0]; exact z5k _ _ i Tryz.underlying80 hi _ _ _,?_,hb⟩;rw [q_g h0];exact hown
 ·obtain ⟨g,hA,_,_⟩:=hp.2 0 _ (q_7 hpos);subst hA;obtain ⟨v',w',hr,ho,hg,_,_⟩:=run_append_own_at (P:=Tryz.prog) (w.alloc (.cells #[] 9)) w.heap.size 80 ty 9 i _ 1 16 Tryz.underlying80 hi hz hsz hby rfl (by decide) (.slice (some ⟨w.heap.size,0,none⟩) 0 0) 0 [] hown ⟨g,0,none⟩ ps.length pc (ps.map Value.string) (by simp) (fun j u hu=>by
   rw [q_b] at hu;obtain ⟨y,hy,rfl⟩:=q_c.1 hu;obtain ⟨g',hg',hF',hc⟩:=hp.2 j y hy;injection hg' with hg';injection hg' with hg';subst hg';rw [Addr.add_lit,Nat.zero_add];exact (q_6 (hb.block _ (hF _ hF'))).trans hc) (fun u hu=>by
   obtain ⟨y,_,rfl⟩:=List.mem_map.1 hu;rfl) (by unfold maxLen; omega) (by omega) (by simp)
  simp only [Nat.zero_add,List.nil_append] at ho;obtain ⟨lA,lc,rfl⟩:=z0x ho;exact ⟨lA,lc,w',hr,ho,hb.trans (z05 hg (fun k hk=>by injection hk with hk; exact Nat.le_of_eq hk) hb.size)⟩
theorem z3z {F:Nat->Prop} {ops:Array Oper} {rest:List Oper} {o:Oper} {a:Act} {Q:Exit->Act->World->Prop} (w:World) (hgd:o.guard=none) (s x:Operand)
  (ho:o.op=.call { callee:=.builtin .append,args:=#[s,x],argTypes:=#[80,80] }) (ps:List Zb) (pA:Option Addr) (n pc:Nat) (hn:n=ps.length) (hs:a.eval s=.slice (some ⟨w.heap.size,0,none⟩) 0 0) (hx:a.eval x=.slice pA n pc) (hp:z0l F w ps pA pc) (hF:∀ b,F b->b<w.heap.size) (hlen:n<=1000)
  (hk:∀ lA lc w',w'.ownsRow w.heap.size 9 1 (.slice lA n lc) ps.length (ps.map Value.string)->Below w.heap.size w w'->wpList Tryz.prog ops Q rest (a.put o.dst (.slice lA n lc)) w') :
  wpList Tryz.prog ops Q (o :: rest) a (w.alloc (.cells #[] 9)):=by
 obtain ⟨lA,lc,w',hrun,h1,h2⟩:=z5j o.type ps pA n pc hn hp hF hlen;refine wpList_plain hgd fun K hK=>?_
 unfold Oper.wp;simp [execOp,ho,resolve,invoke,builtin,hs,hx,hrun,Result.andThen];exact hK _ _ (hk lA lc w' h1 h2)
theorem z9D {w:World} {b b' n size:Nat} {T:TypeId} {v:Value} {xs:List Value} (h:w.ownsRow b' T size v n xs) (hb:b<=b'):w.ownsRow b T size v n xs:=by
 refine ⟨h.1,h.2.imp id ?_⟩;rintro ⟨g,cap,cur,h1,h2,h3⟩;exact ⟨g,cap,cur,h1,q_9 hb h2,h3⟩
def ClK (ps:List Zb) (w:World) (e:Ending) (w':World):Prop:=∃ A c,e=.returned (.slice A ps.length c)/\w'.ownsRow w.heap.size 9 1 (.slice A ps.length c) ps.length (ps.map Value.string)/\Below w.heap.size w w'
theorem zcA {F:Nat->Prop} (ps:List Zb) (pA:Option Addr) (n pc:Nat) (w:World) (hn:n=ps.length) (hp:z0l F w ps pA pc) (hF:∀ b,F b->b<w.heap.size) (hlen:n<=1000):Calls Tryz.prog 51 #[.slice pA n pc] w (ClK ps w):=by
 have q62:∀ (w:World) (a:Option Addr) (n c n' c':Nat),(binOp .eql 80 (.slice a n c) (.slice none n' c')).run Tryz.prog w=.ok (.bool a.isNone) w:=fun w a n c n' c'=>Lib.run_eql_slice_nil w _ _ a n c n' c' Tryz.underlying80
 have Hp:=zhi hp;have HF:=zhi hF;have Hn:=zhi hn;have hc:n<=pc:=by rw [hn]; exact hp.1
 cases pA with
 | none =>
  have h0:ps=[]:=by
   cases ps with
   | nil=>rfl
   | cons x l =>
    obtain ⟨g,e,_⟩:=hp.2 0 x rfl;cases e
  subst h0;clear hp hF hn;go_enter Tryz.func51,Tryz.ntmps51;go_wp2_with fail;go_ret;exact ⟨_,_,rfl,World.ownsRow_nil _ _ _ _,q_i _ _⟩
 | some a =>
  clear hp hF hn;go_enter Tryz.func51,Tryz.ntmps51;go_wp2_with (at_builtin; refine z07.out ?_);refine z07.of (z3z w rfl (.tmp 5) (.tmp 6) rfl ps (some a) n pc Hn.out rfl rfl Hp.out HF.out hlen ?_);intro lA lc w' h1 h2;have hn:=Hn.out;subst hn;have HR:Hid (ClK ps w (.returned (.slice lA ps.length lc)) w'):=zhi ⟨lA,lc,rfl,h1,h2⟩;clear h1 h2;go_wp2_with fail;go_ret;exact HR.out
structure LcS (w:World) (row:Array Value) (wr:World):Prop where
 f:wr.heap[w.heap.size]?=some (.cells row 83 (0,0))
 lo:Below w.heap.size w wr
section
variable {w wr wd:World} {row:Array Value} {B:Nat}
theorem LcS.below (h:LcS w row wr) (hB:w.heap.size<B) (hb:Below B wr wd):LcS w row wd:=⟨(hb.block _ hB).trans h.f,h.lo.trans (hb.mono (Nat.le_of_lt hB))⟩
theorem LcS.size (h:LcS w row wr):w.heap.size<wr.heap.size:=(q_0.1 h.f).1
theorem LcS.cells {v0 v1 v2 v3:Value} (h:LcS w #[v0,v1,v2,v3] wr):wr.cell? ⟨w.heap.size,2,none⟩=some v2/\wr.cell? ⟨w.heap.size,3,none⟩=some v3/\LcS w #[v0,v1,v2,v3] wr:=⟨zcr 2 h.f,zcr 3 h.f,h⟩
end
theorem zaT {F:Nat->Prop} {D d:Nat} (nm:Zb) (ln:Int) (ps:List Zb) (ts:List St) (pA:Option Addr) (pn pc:Nat) (A:Option Addr) (n c:Nat) (w:World) (hpn:pn=ps.length) (hn:n=ts.length) (hp:z0l F w ps pA pc) (h:RowS F w D d ts A c) (hF:∀ b,F b->b<w.heap.size) (hf:fwB ts) (hp2:pn<=1000) (hn2:n<=1000000) (hcnt:ps.length+(vrL ts).length<=100000) :
  Calls Tryz.prog 34 #[.agg #[.string nm,.int .i64 ln,.slice pA pn pc,.slice A n c]] w (ClK (ps++vrL ts) w):=by
 have hb1:=(q_i _ w).alloc (q_2 _) (.cells #[.string nm,.int .i64 ln,.slice pA pn pc,.slice A n c] 83);have hrow:=q_4 w (.cells #[.string nm,.int .i64 ln,.slice pA pn pc,.slice A n c] 83);have hL:LcS w #[.string nm,.int .i64 ln,.slice pA pn pc,.slice A n c] (w.alloc (.cells #[.string nm,.int .i64 ln,.slice pA pn pc,.slice A n c] 83)).drew:=⟨hrow,z0m hb1⟩;have HC:Hid (∀ W,LcS w #[.string nm,.int .i64 ln,.slice pA pn pc,.slice A n c] W->Calls Tryz.prog 51 #[.slice pA pn pc] W (ClK ps W)):=zhi (fun W hW=>zcA (F:=F) ps pA pn pc W hpn ⟨hp.1,fun i x hi=>by
  obtain ⟨g,e,hFg,hc⟩:=hp.2 i x hi;exact ⟨g,e,hFg,(q_6 (hW.lo.block g (hF g hFg))).trans hc⟩⟩ (fun b hb=>q_1 (hF b hb) hW.lo.size) hp2)
 have HV:Hid (∀ (W W3:World) (lA:Option Addr) (lc:Nat),LcS w #[.string nm,.int .i64 ln,.slice pA pn pc,.slice A n c] W->LcS w #[.string nm,.int .i64 ln,.slice pA pn pc,.slice A n c] W3->W.heap.size<=W3.heap.size->W3.ownsRow W.heap.size 9 1 (.slice lA ps.length lc) ps.length (ps.map Value.string)->Calls Tryz.prog 50 #[.slice lA ps.length lc,.slice A n c] W3 (NmK (.slice lA ps.length lc) W.heap.size (ps++vrL ts) W3)):=zhi (fun W W3 lA lc hW hW3 hs ho=>z64 d F D W.heap.size ps lA _ lc ts A n c W3 hn rfl ho hs (h.keep (fun _ h=>h) (fun b hb'=>hW3.lo.block b (hF b hb'))) (fun b hb'=>q_1 (hF b hb') hW.lo.size) hf hn2 hcnt);have hS0:=hL.cells;clear hb1 hrow h hF hf hn hn2 hp hpn;go_enter Tryz.func34,Tryz.ntmps34;go_wp2_with fail;obtain ⟨W,hW⟩:∃ W,W=(w.alloc (.cells #[.string nm,.int .i64 ln,.slice pA pn pc,.slice A n c] 83)).drew:=⟨_,rfl⟩
 go_region_held3 (fun w'=>w'.cell? ⟨w.heap.size,2,none⟩=some (.slice pA pn pc)/\w'.cell? ⟨w.heap.size,3,none⟩=some (.slice A n c)/\LcS w #[.string nm,.int .i64 ln,.slice pA pn pc,.slice A n c] w')
  (first | (with_reducible exact hS0) | ((with_reducible refine LcS.cells ?_); (with_reducible assumption)))
  (first | (go_at_call 51; (with_reducible refine (HC.out _ hL).mono ?_); rintro e w3 ⟨A3,c3,rfl,ho3,hb3⟩; have hL3:=hL.below hL.size hb3) | (go_at_call 50; (with_reducible refine (HV.out _ _ _ _ hL hL3 hb3.size ho3).mono ?_); rintro e w4 ⟨A4,m4,c4,rfl,hm4,ho4,hg4,hx4⟩; have Hm4:=zhi hm4; clear hm4; have hb4:=z05 hg4 (fun k hk=>(ho3.lt k hk).1) hb3.size; have hL4:=hL3.below hL.size hb4))
 clear HC HV;have HR:Hid (ClK (ps++vrL ts) w (.returned (.slice A4 m4 c4)) w4):=zhi (by
  have hm4:=Hm4.out;subst hm4;refine ⟨A4,c4,rfl,?_,hL4.lo⟩;exact z9D ho4 (Nat.le_of_lt hL.size))
 clear Hm4;go_wp2_with fail;go_ret;exact HR.out
end Go.Proofs.YtdflbhofmmlpgaaGreat
