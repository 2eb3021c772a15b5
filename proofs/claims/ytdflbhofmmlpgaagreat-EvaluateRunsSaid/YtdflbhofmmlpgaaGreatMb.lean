/-
  Mb: Yc, Zr, Ze. Part of the proof. No condition.
-/
import Derived.Test.YtdflbhofmmlpgaaGreatMa
import Derived.Laws.MakeOwn
set_option maxRecDepth 100000
set_option maxHeartbeats 8000000
namespace Go.Proofs.YtdflbhofmmlpgaaGreat
open Go.RowKit
mutual
def szX:Ex->Prop
 | .mk _ _ _ _ s xs=>(s.size<=1000/\xs.length<=1000)/\szL xs
def szL:List Ex->Prop
 | []=>True
 | x :: xs=>szX x/\szL xs
end
theorem zc8:∀ {xs:List Ex} {i:Nat} {x:Ex},szL xs->xs[i]?=some x->szX x
 | [],_,_,h,hi=>by simp at hi
 | y :: ys,0,x,h,hi=>by
  simp at hi;subst hi;exact h.1
 | y :: ys,i+1,x,h,hi=>zc8 h.2 (by simpa using hi)
theorem z0p.lowZ {base d:Nat} {w w':World} {v:Value} {xs:List Ex} {L:List Value} (h:z0p base d w v xs L) (hb:Below w.heap.size w w'):z0p base d w' v xs L:=by
 refine ⟨?_,fun j x hj=>?_⟩
 ·rcases h.own.2 with hn | ⟨g',cap,cur,e,hb',hh,rest⟩
  ·exact ⟨h.own.1,.inl hn⟩
  ·exact ⟨h.own.1,.inr ⟨g',cap,cur,e,hb',(hb.block g' (q_0.1 hh).1).trans hh,rest⟩⟩
 ·obtain ⟨c0,c1,c2,c3,c4,c5,e0,e1,e2,e3,e4,e5,hx⟩:=h.at_ j x hj;exact ⟨c0,c1,c2,c3,c4,c5,e0,e1,e2,e3,e4,e5,hx.keep (fun b hb'=>⟨hb'.1,q_1 hb'.2.1 hb.size,hb'.2.2⟩) (fun b hb'=>hb.block b hb'.2.1)⟩
def PXz (D:Nat) (ys:List Ex) (w:World) (e:Ending) (w':World):Prop:=∃ A m c,e=.returned (.slice A m c)/\m=ys.length/\RowE (fun b=>w.heap.size<=b/\b<w'.heap.size) w' D ys A c/\Below w.heap.size w w'
def NxZ (D:Nat):Prop:=∀ (F:Nat->Prop) (bl bo kl ko:Nat) (L O:NmF) (xs:List Ex) (A:Option Addr) (n c:Nat) (w:World),RowE F w D xs A c->n=xs.length->szL xs->n<=1000->(∀ b,F b->b<w.heap.size)->MapZ w bl kl L->MapZ w bo ko O ->
 Calls Tryz.prog 73 #[.agg #[.map (some bl),.map (some bo)],.slice A n c] w (PXz D (nL L O xs) w)
def nVal (L O:NmF) (k a:Int) (s:Zb):Int:=if k=2 then (L s).getD 0 else if k=3\/k=4\/k=9\/k=11 then (O s).getD 0 else a
theorem z9t {D:Nat} (hE:∀ D',D=D'+1->NxZ D'):NxZ D:=by
 intro F bl bo kl ko L O xs A n c w hr hn hsz hn2 hF hbl hbo;have hb0:=(q_i _ w).alloc (q_2 _) (.cells #[.map (some bl),.map (some bo)] 99);have hrow0:=q_4 w (.cells #[.map (some bl),.map (some bo)] 99);have hlt0:=(q_0.1 hrow0).1;have hblt:=hbl.lt;have hbot:=hbo.lt;have HE:=zhi hE;have Hr:=zhi (fun (w':World) (hb:Below w.heap.size w w')=>hr.keep (G:=F) (fun _ h=>h) (fun b hb'=>hb.block b (hF b hb')));have HL:=zhi (fun (w':World) (hb:Below w.heap.size w w')=>hbl.kept (hb.block bl hblt));have HO:=zhi (fun (w':World) (hb:Below w.heap.size w w')=>hbo.kept (hb.block bo hbot));have Hn:=zhi hn;have Hsz:=zhi hsz;have HF:=zhi hF;have HRow0:=zhi hrow0;have HB0:=zhi hb0;have hs0:=hb0.size;have hc:n<=c:=by rw [hn]; exact hr.1
 clear hE hr hn hsz hF hb0 hrow0 hbl hbo;go_enter Tryz.func73,Tryz.ntmps73;go_wp2_with fail;obtain ⟨W,hW⟩:∃ W,W=w.alloc (.cells #[.map (some bl),.map (some bo)] 99):=⟨_,rfl⟩;rw [<- hW] at HRow0 HB0 hs0 hlt0 ⊢;clear hW
 go_loopw [4,9] (fun v i wr=>∃ (ys zs:List Ex) (Lv:List Value) (vA:Option Addr) (vn vc j:Nat),v=.slice vA vn vc/\i=.int .i64 (j:Int)/\Hid (xs=ys++zs/\j=ys.length/\vn=ys.length)/\Hid (z0p W.heap.size D wr (.slice vA vn vc) (nL L O ys) Lv)/\Hid (Below W.heap.size W wr)) (fun _ i _=>n - (intOf i).toNat)
 case atStart=>exact ⟨[],xs,[],none,0,0,0,rfl,rfl,zhi ⟨rfl,rfl,rfl⟩,zhi (z0p.nil _ _ _),zhi (q_i _ _)⟩
 case round =>
  obtain ⟨ys,zs,Lv,vA,vn,vc,j,rfl,rfl,HM,HAR,HB⟩:=hrel;cases zs with
  | nil =>
   have hjn:n<=j:=by rw [Hn.out,HM.out.1,HM.out.2.1]; simp
   have HR:Hid (PXz D (nL L O xs) w (.returned (.slice vA vn vc)) wr):=zhi ⟨vA,vn,vc,rfl,by rw [HM.out.2.2,z1G,HM.out.1]; simp,by rw [HM.out.1,List.append_nil]; exact HAR.out.row.2.keep (fun b hb=>⟨q_9 hs0 hb.1,hb.2⟩) (fun _ _=>rfl),HB0.out.trans (HB.out.mono hs0)⟩;clear HAR HM;go_wp2_with fail;go_ret;exact HR.out
  | cons z zs =>
   have hlt:j<n:=by rw [Hn.out,HM.out.1,HM.out.2.1]; simp
   have hz:xs[j]?=some z:=by rw [HM.out.1,HM.out.2.1]; simp
   have hlow:=HB0.out.trans (HB.out.mono hs0);have hr1:=Hr.out wr hlow;obtain ⟨g,off,c0,c1,c2,c3,c4,c5,rfl,hFg,e0,e1,e2,e3,e4,e5,hv⟩:=hr1.2 _ _ hz;cases D with
   | zero=>exact hv.elim
   | succ D =>
    obtain ⟨k,o,a,l,s,az⟩:=z;obtain ⟨A1,cc,hve,hra⟩:=z1D.1 hv;injection hve with hve;injection hve with hve;injection hve with q0 hve;injection hve with q1 hve;injection hve with q2 hve;injection hve with q3 hve;injection hve with q4 hve;injection hve with q5 _;subst q0 q1 q2 q3 q4 q5;obtain ⟨⟨hss,haz⟩,hsa⟩:=zc8 Hsz.out hz;have hb2:=(q_i _ wr).alloc (q_2 _) (.cells #[.int .i64 k,.int .i64 o,.int .i64 a,.int .i64 l,.string s,.slice A1 az.length cc] 124);have hX2:=q_4 wr (.cells #[.int .i64 k,.int .i64 o,.int .i64 a,.int .i64 l,.string s,.slice A1 az.length cc] 124);obtain ⟨an,han⟩:∃ an,an=az.length:=⟨_,rfl⟩;rw [<- han] at hb2 hX2 e5 haz;have hszB:=HB.out.size;have hlow2:=hlow.trans (hb2.mono (by omega));have hN2:=(hb2.block _ (q_1 hlt0 hszB)).trans ((HB.out.block _ hlt0).trans HRow0.out);obtain ⟨W2,hW2⟩:∃ W2,W2=wr.alloc (.cells #[.int .i64 k,.int .i64 o,.int .i64 a,.int .i64 l,.string s,.slice A1 an cc] 124):=⟨_,rfl⟩;rw [<- hW2] at hb2 hX2 hlow2 hN2;have hW2s:wr.heap.size<W2.heap.size:=(q_0.1 hX2).1;have HX2:=zhi hX2;have HN2:=zhi hN2;have HB2:=zhi hb2;have HLow2:=zhi hlow2;have Han:=zhi han;have Hss:=zhi hss;have Hsa:=zhi hsa;have Hhra:=zhi hra;clear hb2 hX2 hlow hlow2 hN2 hr1 hFg hv hra hss hsa hz han;go_upto_region 4 with fail;rw [<- hW2];clear hW2 e0 e1 e2 e3 e4 e5;have x0:=zcr 0 HX2.out
    go_upto_block 2 with fail
    go_cut [] from 10 to 43 (fun wd=>wd.heap[wr.heap.size]?=some (.cells #[.int .i64 k,.int .i64 o,.int .i64 (nVal L O k a s),.int .i64 l,.string s,.slice A1 an cc] 124 (0,0))/\W2.grownBy wd (some wr.heap.size))
    case first =>
     have x2:=zcr 2 HX2.out;have x4:=zcr 4 HX2.out;have f2:=z09 HX2.out 2;obtain ⟨n0,n1⟩:=cl2 HN2.out;have lk1:=(HL.out W2 HLow2.out).look s (by have:=Hss.out; unfold maxLen; omega);have lk2:=(HO.out W2 HLow2.out).look s (by have:=Hss.out; unfold maxLen; omega)
     by_cases hk:k=2
     ·have hv:nVal L O k a s=(L s).getD 0:=by unfold nVal; rw [if_pos hk]
      have HV:=zhi hv;clear hv;subst hk;go_wp2_with fail
      go_meet
      case rel=>exact ⟨by rw [HV.out]; exact z0a (i:=2) _ HX2.out,z03 _ ⟨wr.heap.size,2,none⟩ _⟩
     ·by_cases hk3:k=3\/k=4\/k=9\/k=11
      ·have hv:nVal L O k a s=(O s).getD 0:=by unfold nVal; rw [if_neg hk,if_pos hk3]
       have HV:=zhi hv;clear hv;rcases hk3 with hk | hk | hk | hk
       ·subst hk;go_wp2_with fail
        go_meet
        case rel=>exact ⟨by rw [HV.out]; exact z0a (i:=2) _ HX2.out,z03 _ ⟨wr.heap.size,2,none⟩ _⟩
       ·subst hk;go_wp2_with fail
        go_meet
        case rel=>exact ⟨by rw [HV.out]; exact z0a (i:=2) _ HX2.out,z03 _ ⟨wr.heap.size,2,none⟩ _⟩
       ·subst hk;go_wp2_with fail
        go_meet
        case rel=>exact ⟨by rw [HV.out]; exact z0a (i:=2) _ HX2.out,z03 _ ⟨wr.heap.size,2,none⟩ _⟩
       ·subst hk;go_wp2_with fail
        go_meet
        case rel=>exact ⟨by rw [HV.out]; exact z0a (i:=2) _ HX2.out,z03 _ ⟨wr.heap.size,2,none⟩ _⟩
      ·have hv:nVal L O k a s=a:=by unfold nVal; rw [if_neg hk,if_neg hk3]
       have HV:=zhi hv;have k1:(k == 2)=false:=by simp [hk]
       have k2:(k == 3)=false:=by simp; omega
       have k3:(k == 4)=false:=by simp; omega
       have k4:(k == 9)=false:=by simp; omega
       have k5:(k == 11)=false:=by simp; omega
       clear hv hk hk3;go_wp2_with fail
       go_meet
       case rel=>exact ⟨by rw [HV.out]; exact HX2.out,⟨rfl,rfl,rfl,q_2 _,fun _ _ _=>rfl⟩⟩
    case rest =>
     obtain ⟨hXc,hgc⟩:=hcut;have hlowc:=HLow2.out.trans (z05 hgc (fun k hk=>by injection hk with hk; omega) (by have:=HLow2.out.size; omega));have hNc:=z04 hgc (by omega) HN2.out;have hsc:=hgc.size;obtain ⟨n0,n1⟩:=cl2 hNc;have y5:=zcr 5 hXc;have HCx:=zhi (HE.out D rfl F bl bo kl ko L O az A1 an cc wc (Hhra.out.keep (G:=F) (fun _ h=>h) (fun b hb=>by
      have hlt:=q_1 (HF.out b hb) (q_9 hs0 hszB);exact (hgc.block b (by omega) (fun e=>by injection e with e; omega)).trans (HB2.out.block b hlt))) Han.out Hsa.out haz (fun b hb=>by have:=HF.out b hb; have:=HLow2.out.size; omega) (HL.out _ hlowc) (HO.out _ hlowc))
     have HXc:=zhi hXc;have HBc:Hid (Below wr.heap.size wr wc):=zhi (HB2.out.trans (z05 hgc (fun k hk=>by injection hk with hk; omega) (by omega)));clear hXc hgc hlowc hNc x0 HE HX2 HN2 HB2 HL HO;go_wp2_with fail;refine HCx.out.mono ?_;rintro e w3 ⟨A3,m3,c3,rfl,hm3,hr3,hb3⟩;have hX3:=(hb3.block _ (q_0.1 HXc.out).1).trans HXc.out;have f5:=z09 hX3 5;have b5:=zcr 5 hX3;have hg4:w3.grownBy (w3.setCell ⟨wr.heap.size,5,none⟩ (.slice A3 m3 c3)) (some wr.heap.size):=z03 w3 ⟨wr.heap.size,5,none⟩ _;have row4:(w3.setCell ⟨wr.heap.size,5,none⟩ (.slice A3 m3 c3)).heap[wr.heap.size]?=some (.cells #[.int .i64 k,.int .i64 o,.int .i64 (nVal L O k a s),.int .i64 l,.string s,.slice A3 m3 c3] 124 (0,0)):=z0a (i:=5) _ hX3;obtain ⟨a0,a1,a2,a3,a4,a5⟩:=cl6 row4;have hs3:=hb3.size;have hs4:=hg4.size;have HB4:=zhi (show Below wr.heap.size wr (w3.setCell ⟨wr.heap.size,5,none⟩ (.slice A3 m3 c3)) from (HBc.out.trans (hb3.mono (by omega))).trans (z05 hg4 (fun k hk=>by injection hk with hk; omega) (by omega)));have HY4:Hid (ExV (fun b=>wc.heap.size<=b/\b<(w3.setCell ⟨wr.heap.size,5,none⟩ (.slice A3 m3 c3)).heap.size) (w3.setCell ⟨wr.heap.size,5,none⟩ (.slice A3 m3 c3)) (D+1) (nX L O (.mk k o a l s az)) (.agg #[.int .i64 k,.int .i64 o,.int .i64 (nVal L O k a s),.int .i64 l,.string s,.slice A3 m3 c3])):=zhi (by
      refine z1D.2 ⟨A3,c3,by rw [hm3]; rfl,hr3.keep (fun b hb=>⟨hb.1,q_1 hb.2 hs4⟩) (fun b hb=>hg4.block b hb.2 (fun e=>by injection e with e; omega))⟩)
     obtain ⟨W4,hW4⟩:∃ W4,W4=w3.setCell ⟨wr.heap.size,5,none⟩ (.slice A3 m3 c3):=⟨_,rfl⟩;rw [<- hW4] at HB4 HY4 a0 a1 a2 a3 a4 a5 hs4;have hown:=HAR.out.own;have HOU:=zhi (fun b hb=>(hown.lt b hb).2);have HAR4:=zhi (HAR.out.lowZ HB4.out);have HBW:=zhi (HB.out.trans (HB4.out.mono hszB));have hvn:vn<=1000:=by rw [HM.out.2.2,<- HM.out.2.1]; omega
     clear hm3 hr3 hb3 hX3 hg4 row4 hown HAR HB HCx y5 n0 n1;go_upto_region 13 with fail;rw [<- hW4];clear hW4 f5 b5;go_wp2_with (at_builtin; refine z07.out ?_);have hnl:(nL L O ys).length=vn:=by rw [z1G,HM.out.2.2]
     have Hnl:=zhi hnl;refine z07.of (z0M W4 rfl (.tmp 39) (.tmp 41) rfl W.heap.size (D+1) (.slice vA vn vc) (nL L O ys) Lv (nX L O (.mk k o a l s az)) k o (nVal L O k a s) l s A3 m3 c3 (fun b=>wc.heap.size<=b/\b<W4.heap.size) rfl rfl HAR4.out (by rw [hnl]; omega) (by have:=HBW.out.size; omega) HY4.out (fun b hb=>⟨by omega,hb.2,fun e=>by have:=HOU.out b e; omega⟩) ?_);clear hnl;intro g9 cap9 w9 har9 hg9;rw [Hnl.out] at har9 ⊢;have hmod:nL L O ys++[nX L O (.mk k o a l s az)]=nL L O (ys++[.mk k o a l s az]):=by rw [zbZ]; rfl
     rw [hmod] at har9;have HAR9:=zhi har9;have HB9:Hid (Below W.heap.size W w9):=zhi (HBW.out.trans (z05 hg9 (fun k hk=>(HAR4.out.own.lt k hk).1) (by have:=HBW.out.size; omega)));have HM9:Hid (xs=(ys++[Ex.mk k o a l s az])++zs/\j+1=(ys++[Ex.mk k o a l s az]).length/\vn+1=(ys++[Ex.mk k o a l s az]).length):=zhi ⟨by rw [HM.out.1]; simp,by rw [HM.out.2.1]; simp,by rw [HM.out.2.2]; simp⟩;clear har9 hg9 hmod HAR4 HBW HY4 HOU a0 a1 a2 a3 a4 a5;go_wp2_with fail;exact ⟨⟨ys++[Ex.mk k o a l s az],zs,_,_,vn+1,cap9,j+1,rfl,by go_num,HM9,HAR9,HB9⟩,by simp [intOf]; omega⟩
theorem zc3:∀ D:Nat,NxZ D
 | 0=>z9t (fun _ h=>by omega)
 | D+1=>z9t (fun D' h=>by
   have e:D=D':=by omega
   rw [<- e];exact zc3 D)
def ZInt:z1H Int:=fun _ _ x cs=>cs=[.int .i64 x]
theorem z0f:ZInt.Keeps:=fun _ _ _ _ _ _ _ _ h=>h
theorem z2E:(Tryz.prog.info? 3).map (fun i=>(i.zero,i.size,i.bytes))=some (some (.int .i64 0),1,8):=by kernel_rfl
theorem z1q {base:Nat} {w w':World} {v:Value} {xs:List Int} {L:List Value} (h:GRow 1 3 ZInt base w v xs L) (hk:∀ b,v.ownBlock=some b->w'.heap[b]?=w.heap[b]?):GRow 1 3 ZInt base w' v xs L:=by
 refine ⟨?_,h.at_⟩;rcases h.own.2 with hn | ⟨g',cap,cur,e,hb',hh,rest⟩
 ·exact ⟨h.own.1,.inl hn⟩
 ·exact ⟨h.own.1,.inr ⟨g',cap,cur,e,hb',(hk g' (by rw [e]; rfl)).trans hh,rest⟩⟩
theorem z2b {base:Nat} {w:World} {v:Value} {xs:List Int} {L:List Value} (h:GRow 1 3 ZInt base w v xs L):∃ A c,v=.slice A xs.length c:=by
 rcases h.own.2 with ⟨rfl,h0⟩ | ⟨g,cap,cur,rfl,_⟩
 ·exact ⟨none,0,by rw [h0]⟩
 ·exact ⟨_,_,rfl⟩
theorem z0j {α:Type} {k:Nat} {V:z1H α} {F G:Nat->Prop} {w w':World} {xs:List α} {A:Option Addr} {c:Nat} (hV:V.Keeps) (hFG:∀ b,F b->G b) (hk:∀ b,F b->w'.heap[b]?=w.heap[b]?) (h:RowG k V F w xs A c):RowG k V G w' xs A c:=by
 refine ⟨h.1,fun i x hi=>?_⟩;obtain ⟨g,cs,h1,h2,h3,h4,h5⟩:=h.2 i x hi;exact ⟨g,cs,h1,hFG g h2,h3,fun j u hu=>(q_6 (hk g h2)).trans (h4 j u hu),hV _ _ _ _ _ _ hFG hk h5⟩
theorem z1n {α:Type} {k:Nat} {T S:TypeId} {V:z1H α} {ops:Array Oper} {rest:List Oper} {o:Oper} {a:Act} {Q:Exit->Act->World->Prop} (w:World) (hgd:o.guard=none) (s x:Operand)
  (ho:o.op=.call { callee:=.builtin .append,args:=#[s,x],argTypes:=#[S,S] }) (hV:V.Keeps) (z:Value) (bytes:Nat) (ht:Tryz.prog.underlying S=some (.slice T)) (hinfo:(Tryz.prog.info? T).map (fun i=>(i.zero,i.size,i.bytes))=some (some z,k,bytes)) (hzs:z.cells.size=k) (hk0:0<k) (hb0:bytes<=1000)
  (base:Nat) (v:Value) (xs:List α) (L:List Value) (y:α) (cs:List Value) (F:Nat->Prop)
  (hs:a.eval s=v) (hx:a.eval x=.slice (some ⟨w.heap.size,0,none⟩) 1 1) (h:GRow k T V base w v xs L) (hlen:xs.length<=1000000) (hbase:base<=w.heap.size)
  (hcs:cs.length=k) (h1:∀ u∈cs,u.oneCell'=true) (hy:V F w y cs) (hF:∀ b,F b->base<=b/\b<w.heap.size/\v.ownBlock≠some b)
  (hk:∀ g cap w',GRow k T V base w' (.slice (some ⟨g,0,none⟩) (xs.length+1) cap) (xs++[y]) (L++cs)->w.grownBy w' v.ownBlock->(v.ownBlock=some g\/w.heap.size<=g)->wpList Tryz.prog ops Q rest (a.put o.dst (.slice (some ⟨g,0,none⟩) (xs.length+1) cap)) w') :
  wpList Tryz.prog ops Q (o :: rest) a (w.alloc (.cells cs.toArray T)):=by
 obtain ⟨i,hi,hz,hsz,hby⟩:=info_parts hinfo;have hmul:(xs.length+1) * bytes<=1000001 * 1000:=Nat.mul_le_mul (by omega) hb0;refine wpList_append_lies _ hgd s x _ ho base T i z k bytes ht hi hz hsz hby hzs hk0 v xs.length L hs (h.own.alloc _) ⟨w.heap.size,0,none⟩ 1 1 cs hx (by omega) ?_ h1 (by decide) (by unfold maxLen; omega) (by omega) (by simp; omega) _ rfl fun g cap w' h1 h2 h3 _=>hk g cap w' (h.push hV hcs hy hF h1 ((q_i _ w).alloc (q_2 _) _) h2 h3) ((World.grownBy_alloc _ _ _).trans h2) (h3.imp id (fun e=>by rw [e]; simp))
 intro j u hu;rw [Addr.add_lit,Nat.zero_add];exact (zcr _ (q_4 w _)).trans (by simpa using hu)
def IntB (w:World) (b:Nat) (l:List Int):Prop:=w.heap[b]?=some (.cells (l.map (Value.int .i64)).toArray 3 (0,0))
theorem IntB.at_ {w:World} {b i:Nat} {l:List Int} {x:Int} (h:IntB w b l) (hi:l[i]?=some x):w.cell? ⟨b,i,none⟩=some (.int .i64 x):=by
 rw [zcr i h];simp [hi]
theorem IntB.set_ {w:World} {b i:Nat} {l:List Int} (h:IntB w b l) (x:Int):IntB (w.setCell ⟨b,i,none⟩ (.int .i64 x)) b (l.set i x):=by
 have:=z0a (i:=i) (.int .i64 x) h;unfold IntB;rw [this];simp
theorem IntB.lt {w:World} {b:Nat} {l:List Int} (h:IntB w b l):b<w.heap.size:=(q_0.1 h).1
structure RK where
 sz:Value
 fn:Value
 gv:Value
 ls:Int
 ld:Int
 gb:Nat
 ga:List Nat
 gs:List Nat
structure KOk (p:Nat) (K:RK):Prop where
 gb:p<=K.gb
 gp:K.gs=[]\/p<K.gb
 gn:K.gb ∉ K.ga
 ga:∀ b∈K.ga,p<b
 nd:K.ga.Nodup
 ls:K.ls<=1099511627776
 ld:K.ld<=1000
 gl:K.gs.length<=1000
 gm:∀ m∈K.gs,m<=1000000
structure GlZ (K:RK) (gl:List (List Int)) (w:World):Prop where
 ln:gl.map List.length=K.gs
 sl:gl=[]\/∃ c,K.gv=.slice (some ⟨K.gb,0,none⟩) gl.length c
 at_:∀ (i:Nat) (l:List Int),gl[i]?=some l->∃ b c,K.ga[i]?=some b/\w.cell? ⟨K.gb,i,none⟩=some (.slice (some ⟨b,0,none⟩) l.length c)/\IntB w b l
def LocZ (p:Nat) (K:RK) (lb nl:Nat) (l:List Int) (v:Value) (w:World):Prop :=
 l.length=nl/\((nl=0/\lb=p/\v=.slice none 0 0)\/(p<lb/\lb≠K.gb/\lb ∉ K.ga/\(∃ c,v=.slice (some ⟨lb,0,none⟩) nl c)/\IntB w lb l))
def InZ (p:Nat) (l:List Int) (v:Value) (w:World):Prop:=∃ A c,v=.slice A l.length c/\l.length<=c/\l.length<=1000000/\Rd w A (l.map (Value.int .i64))/\∀ ad,A=some ad->ad.block<p
structure RunM (p:Nat) (K:RK) (lb nl:Nat) (dp:Int) (s:Sx) (iv ov lv:Value) (w:World):Prop where
 r:RnP p ⟨K.sz,K.fn,K.ls,K.ld,s.st,dp,iv,ov,K.gv,lv⟩ w
 i:InZ p s.inp iv w
 o:∃ L,GRow 1 3 ZInt (p+1) w ov s.out L
 on:∀ b,ov.ownBlock=some b->b≠lb/\b ∉ K.ga/\b≠K.gb
 g:GlZ K s.gl w
 l:LocZ p K lb nl s.lv lv w
 k:KOk p K
 st:0<=s.st/\s.st<=max K.ls 0
 ol:s.out.length<=4096
 dp:0<=dp/\dp<=100000
 nl:nl<=1000
 lt:∀ b,(b=K.gb\/b∈K.ga)->b<w.heap.size
def RunS (p:Nat) (K:RK) (lb nl:Nat) (dp:Int) (s:Sx) (w:World):Prop:=∃ iv ov lv,RunM p K lb nl dp s iv ov lv w
def OutB (p:Nat) (w:World) (b:Nat):Prop:=∃ v:Value,w.cell? ⟨p,7,none⟩=some v/\v.ownBlock=some b
def z2n (p:Nat) (K:RK) (lb:Nat) (w:World) (b:Nat):Prop:=p<b/\b≠lb/\b ∉ K.ga/\b≠K.gb/\¬ OutB p w b
structure FrZ (p:Nat) (K:RK) (lb:Nat) (w w':World):Prop where
 lo:Below p w w'
 keep:∀ b,b<w.heap.size->b≠p->b≠lb->b ∉ K.ga->¬ OutB p w b->w'.heap[b]?=w.heap[b]?
 own:∀ b,OutB p w' b->OutB p w b\/w.heap.size<=b
section
variable {p:Nat} {K:RK} {lb nl:Nat} {dp:Int} {s:Sx} {iv ov lv:Value} {w w' w2:World}
theorem RunM.plt (h:RunM p K lb nl dp s iv ov lv w):p<w.heap.size:=(q_0.1 h.r).1
theorem RunS.lt (h:RunS p K lb nl dp s w):p<w.heap.size:=by
 obtain ⟨_,_,_,h⟩:=h;exact h.plt
theorem RunM.out_iff (h:RunM p K lb nl dp s iv ov lv w) (b:Nat):OutB p w b ↔ ov.ownBlock=some b:=by
 have hc:w.cell? ⟨p,7,none⟩=some ov:=zcr 7 h.r;exact ⟨fun ⟨v,h1,h2⟩=>by rw [hc] at h1; injection h1 with h1; rw [h1]; exact h2,fun h2=>⟨ov,hc,h2⟩⟩
theorem RunM.out_lt (h:RunM p K lb nl dp s iv ov lv w) {b:Nat} (hb:ov.ownBlock=some b):p<b/\b<w.heap.size:=by
 obtain ⟨L,ho⟩:=h.o;have:=ho.own.lt b hb;exact ⟨by omega,this.2⟩
theorem RunM.keep (h:RunM p K lb nl dp s iv ov lv w) (hs:w.heap.size<=w'.heap.size) (hk:∀ b,b<w.heap.size->(b<=p\/b=lb\/b∈K.ga\/b=K.gb\/ov.ownBlock=some b)->w'.heap[b]?=w.heap[b]?):RunM p K lb nl dp s iv ov lv w' where
 r:=(hk p h.plt (.inl (q_2 _))).trans h.r
 i:=by
  obtain ⟨A,c,h1,h2,h3,h4,h5⟩:=h.i;refine ⟨A,c,h1,h2,h3,fun j u hu=>?_,h5⟩;obtain ⟨ad,e,hc⟩:=h4 j u hu;have hb:=h5 ad e;refine ⟨ad,e,(q_6 (a:=ad.add j) (hk _ ?_ (.inl ?_))).trans hc⟩
  ·rw [z0i]; have:=h.plt; omega
  ·rw [z0i]; omega
 o:=by
  obtain ⟨L,ho⟩:=h.o;exact ⟨L,z1q ho fun b hb=>hk b (h.out_lt hb).2 (.inr (.inr (.inr (.inr hb))))⟩
 on:=h.on
 g:=⟨h.g.ln,h.g.sl,fun i l hi=>by
  obtain ⟨b,c,h1,h2,h3⟩:=h.g.at_ i l hi;refine ⟨b,c,h1,(q_6 (a:=⟨K.gb,i,none⟩) (hk _ (q_k w _ h2) (.inr (.inr (.inr (.inl rfl)))))).trans h2,(hk b h3.lt (.inr (.inr (.inl (q_a h1))))).trans h3⟩⟩
 l:=by
  refine ⟨h.l.1,?_⟩;rcases h.l.2 with h1 | ⟨h1,h2,h3,h4,h5⟩
  ·exact .inl h1
  ·exact .inr ⟨h1,h2,h3,h4,(hk lb h5.lt (.inr (.inl rfl))).trans h5⟩
 k:=h.k
 st:=h.st
 ol:=h.ol
 dp:=h.dp
 nl:=h.nl
 lt:=fun b hb=>q_1 (h.lt b hb) hs
theorem RunS.below (h:RunS p K lb nl dp s w) (hb:Below w.heap.size w w'):RunS p K lb nl dp s w':=by
 obtain ⟨iv,ov,lv,h⟩:=h;exact ⟨iv,ov,lv,h.keep hb.size fun b hb' _=>hb.block b hb'⟩
theorem RunS.grown {b:Nat} (h:RunS p K lb nl dp s w) (hg:w.grownBy w' (some b)) (hf:z2n p K lb w b):RunS p K lb nl dp s w':=by
 obtain ⟨iv,ov,lv,h⟩:=h;obtain ⟨h1,h2,h3,h4,h5⟩:=hf;refine ⟨iv,ov,lv,h.keep hg.size fun b' hb' hc=>hg.block b' hb' fun e=>?_⟩;injection e with e;subst e;rcases hc with hc | hc | hc | hc | hc
 ·omega
 ·exact h2 hc
 ·exact h3 hc
 ·exact h4 hc
 ·exact h5 ((h.out_iff _).2 hc)
theorem RunS.free (h:RunS p K lb nl dp s w) {b:Nat} (hb:w.heap.size<=b):z2n p K lb w b:=by
 obtain ⟨iv,ov,lv,h⟩:=h;have hlt:=h.plt;refine ⟨by omega,fun e=>?_,fun e=>?_,fun e=>?_,fun e=>?_⟩
 ·rcases h.l.2 with ⟨_,h1,_⟩ | ⟨_,_,_,_,h5⟩
  ·omega
  ·have:=h5.lt; omega
 ·have:=h.lt b (.inr e); omega
 ·have:=h.lt b (.inl e); omega
 ·have:=(h.out_lt ((h.out_iff _).1 e)).2;omega
theorem RunS.bound (h:RunS p K lb nl dp s w):0<=s.st/\s.st<=1099511627776/\s.st<=max K.ls 0/\0<=dp/\dp<=100000/\s.out.length<=4096/\s.lv.length=nl/\nl<=1000:=by
 obtain ⟨iv,ov,lv,h⟩:=h;have:=h.k.ls;have:=h.st;exact ⟨this.1,by omega,this.2,h.dp.1,h.dp.2,h.ol,h.l.1,h.nl⟩
theorem FrZ.refl (p:Nat) (K:RK) (lb:Nat) (w:World):FrZ p K lb w w:=⟨q_i _ _,fun _ _ _ _ _ _=>rfl,fun _ h=>.inl h⟩
theorem FrZ.trans (h:FrZ p K lb w w') (k:FrZ p K lb w' w2):FrZ p K lb w w2 :=
 ⟨h.lo.trans k.lo,fun b hb h1 h2 h3 h4=>(k.keep b (q_1 hb h.lo.size) h1 h2 h3 (fun e=>by
  rcases h.own b e with e2 | e2
  ·exact h4 e2
  ·omega)).trans (h.keep b hb h1 h2 h3 h4),fun b e=>by
  rcases k.own b e with e1 | e1
  ·exact h.own b e1
  ·exact .inr (q_9 h.lo.size e1)⟩
theorem z2T {b:Nat} (hk:w'.heap[p]?=w.heap[p]?) (h:OutB p w' b):OutB p w b:=by
 obtain ⟨v,h1,h2⟩:=h;exact ⟨v,(q_6 (a:=⟨p,7,none⟩) hk).symm.trans h1,h2⟩
theorem FrZ.below (h:FrZ p K lb w w') (hb:Below w'.heap.size w' w2) (hp:p<w.heap.size):FrZ p K lb w w2 :=
 h.trans ⟨hb.mono (by have:=h.lo.size; omega),fun b hb' _ _ _ _=>hb.block b hb',fun b e=>.inl (z2T (hb.block p (by have:=h.lo.size; omega)) e)⟩
theorem FrZ.put {b:Nat} (h:FrZ p K lb w w') (hg:w'.grownBy w2 (some b)) (hb:w.heap.size<=b) (hp:p<w.heap.size):FrZ p K lb w w2 :=
 ⟨h.lo.trans (z05 hg (fun k hk=>by injection hk with hk; omega) (by have:=h.lo.size; omega)),fun b' hb' h1 h2 h3 h4=>(hg.block b' (q_1 hb' h.lo.size) (fun e=>by injection e with e; omega)).trans (h.keep b' hb' h1 h2 h3 h4),
  fun b' e=>h.own b' (z2T (hg.block p (by have:=h.lo.size; omega) (fun e=>by injection e with e; omega)) e)⟩
theorem FrZ.free {b:Nat} (h:FrZ p K lb w w') (hb:b<w.heap.size) (hf:z2n p K lb w b):z2n p K lb w' b :=
 ⟨hf.1,hf.2.1,hf.2.2.1,hf.2.2.2.1,fun e=>by
  rcases h.own b e with e2 | e2
  ·exact hf.2.2.2.2 e2
  ·omega⟩
theorem FrZ.at_ {b:Nat} {o:Obj} (h:FrZ p K lb w w') (hf:z2n p K lb w b) (hz:w.heap[b]?=some o):w'.heap[b]?=some o :=
 (h.keep b (q_0.1 hz).1 (by have:=hf.1; omega) hf.2.1 hf.2.2.1 hf.2.2.2.2).trans hz
theorem z1e {b:Nat} (hf:z2n p K lb w b) (hb:Below w.heap.size w w') (hp:p<w.heap.size):z2n p K lb w' b :=
 ⟨hf.1,hf.2.1,hf.2.2.1,hf.2.2.2.1,fun e=>hf.2.2.2.2 (z2T (hb.block p hp) e)⟩
theorem z3F {b b':Nat} (hf:z2n p K lb w b) (hg:w.grownBy w' (some b')) (hp:p<w.heap.size) (hb:p<b'):z2n p K lb w' b :=
 ⟨hf.1,hf.2.1,hf.2.2.1,hf.2.2.2.1,fun e=>hf.2.2.2.2 (z2T (hg.block p hp (fun e=>by injection e with e; omega)) e)⟩
theorem RunM.self {lb' nl':Nat} {dp':Int} {s':Sx} {iv' lv':Value} (h:RunM p K lb nl dp s iv ov lv w) (hg:w.grownBy w' (some p)) (hr:RnP p ⟨K.sz,K.fn,K.ls,K.ld,s'.st,dp',iv',ov,K.gv,lv'⟩ w')
  (hi:InZ p s'.inp iv' w') (hl:LocZ p K lb' nl' s'.lv lv' w') (ho:s'.out=s.out) (hgl:s'.gl=s.gl) (hlo:∀ b,ov.ownBlock=some b->b≠lb') (hst:0<=s'.st/\s'.st<=max K.ls 0) (hdp:0<=dp'/\dp'<=100000) (hnl:nl'<=1000):RunM p K lb' nl' dp' s' iv' ov lv' w' where
 r:=hr
 i:=hi
 o:=by
  obtain ⟨L,hL⟩:=h.o;rw [ho];exact ⟨L,z1q hL fun b hb=>hg.block b (h.out_lt hb).2 (fun e=>by injection e with e; have:=(h.out_lt hb).1; omega)⟩
 on:=fun b hb=>⟨hlo b hb,(h.on b hb).2⟩
 g:=by
  rw [hgl];refine ⟨h.g.ln,h.g.sl,fun i l hi=>?_⟩;obtain ⟨b,c,h1,h2,h3⟩:=h.g.at_ i l hi;have hgb:p<K.gb:=by
   rcases h.k.gp with e | e
   ·have hl:=h.g.ln;rw [e] at hl;rw [List.map_eq_nil_iff.1 hl] at hi;simp at hi
   ·exact e
  have hb:p<b:=h.k.ga b (q_a h1);exact ⟨b,c,h1,(q_6 (a:=⟨K.gb,i,none⟩) (hg.block _ (q_k w _ h2) (fun e=>by injection e with e; have e':K.gb=p:=e; omega))).trans h2,(hg.block b h3.lt (fun e=>by injection e with e; omega)).trans h3⟩
 l:=hl
 k:=h.k
 st:=hst
 ol:=by rw [ho]; exact h.ol
 dp:=hdp
 nl:=hnl
 lt:=fun b hb=>q_1 (h.lt b hb) hg.size
theorem InZ.grown {l:List Int} {v:Value} (h:InZ p l v w) (hg:w.grownBy w' (some p)) (hp:p<w.heap.size):InZ p l v w':=by
 obtain ⟨A,c,h1,h2,h3,h4,h5⟩:=h;refine ⟨A,c,h1,h2,h3,fun j u hu=>?_,h5⟩;obtain ⟨ad,e,hc⟩:=h4 j u hu;have hb:=h5 ad e;exact ⟨ad,e,(q_6 (a:=ad.add j) (hg.block _ (by rw [z0i]; omega) (fun e=>by injection e with e; rw [z0i] at e; omega))).trans hc⟩
theorem LocZ.grown {l:List Int} {v:Value} (h:LocZ p K lb nl l v w) (hg:w.grownBy w' (some p)):LocZ p K lb nl l v w':=by
 refine ⟨h.1,?_⟩;rcases h.2 with h1 | ⟨h1,h2,h3,h4,h5⟩
 ·exact .inl h1
 ·exact .inr ⟨h1,h2,h3,h4,(hg.block lb h5.lt (fun e=>by injection e with e; omega)).trans h5⟩
theorem z2Z (hg:w.grownBy w' (some p)) (hp:p<w.heap.size) (ho:∀ b,OutB p w' b->OutB p w b):FrZ p K lb w w' :=
 ⟨z05 hg (fun k hk=>by injection hk with hk; omega) (by omega),fun b hb h1 _ _ _=>hg.block b hb (fun e=>h1 (by injection e)),fun b e=>.inl (ho b e)⟩
theorem RunM.setL {i:Nat} {x:Int} (h:RunM p K lb nl dp s iv ov lv w) (hi:i<nl):RunM p K lb nl dp { s with lv:=s.lv.set i x } iv ov lv (w.setCell ⟨lb,i,none⟩ (.int .i64 x))/\FrZ p K lb w (w.setCell ⟨lb,i,none⟩ (.int .i64 x)):=by
 obtain ⟨hl0,hl⟩:=h.l;rcases hl with hl | ⟨h1,h2,h3,h4,h5⟩
 ·omega
 ·have hg:w.grownBy (w.setCell ⟨lb,i,none⟩ (.int .i64 x)) (some lb):=z03 w ⟨lb,i,none⟩ _;have hk:∀ b,b<w.heap.size->b≠lb->(w.setCell ⟨lb,i,none⟩ (.int .i64 x)).heap[b]?=w.heap[b]?:=fun b hb hne=>hg.block b hb (fun e=>hne (by injection e))
  refine ⟨⟨(hk p h.plt (by omega)).trans h.r,?_,?_,h.on,?_,⟨by simpa using hl0,.inr ⟨h1,h2,h3,h4,h5.set_ x⟩⟩,h.k,h.st,h.ol,h.dp,h.nl,fun b hb=>q_1 (h.lt b hb) hg.size⟩,?_⟩
  ·obtain ⟨A,c,i1,i2,i3,i4,i5⟩:=h.i;refine ⟨A,c,i1,i2,i3,fun j u hu=>?_,i5⟩;obtain ⟨ad,e,hc⟩:=i4 j u hu;have hb:=i5 ad e;have hp:=h.plt;exact ⟨ad,e,(q_6 (a:=ad.add j) (hk _ (by rw [z0i]; omega) (by rw [z0i]; omega))).trans hc⟩
  ·obtain ⟨L,ho⟩:=h.o;exact ⟨L,z1q ho fun b hb=>hk b (h.out_lt hb).2 (h.on b hb).1⟩
  ·exact ⟨h.g.ln,h.g.sl,fun j l hj=>by
    obtain ⟨b,c,e1,e2,e3⟩:=h.g.at_ j l hj;exact ⟨b,c,e1,(q_6 (a:=⟨K.gb,j,none⟩) (hk _ (q_k w _ e2) (fun e=>h2 e.symm))).trans e2,(hk b e3.lt (fun e=>h3 (e ▸ q_a e1))).trans e3⟩⟩
  ·exact ⟨z05 hg (fun k hk=>by injection hk with hk; omega) (by have:=h.plt; omega),fun b hb _ e2 _ _=>hk b hb e2,fun b e=>.inl (z2T (hk p h.plt (by omega)) e)⟩
theorem RunM.setG {n j b:Nat} {x:Int} {l:List Int} (h:RunM p K lb nl dp s iv ov lv w) (hn:s.gl[n]?=some l) (hb:K.ga[n]?=some b):RunM p K lb nl dp { s with gl:=s.gl.set n (l.set j x) } iv ov lv (w.setCell ⟨b,j,none⟩ (.int .i64 x))/\FrZ p K lb w (w.setCell ⟨b,j,none⟩ (.int .i64 x)):=by
 have hbm:=q_a hb;have hpb:=h.k.ga b hbm;have hg:w.grownBy (w.setCell ⟨b,j,none⟩ (.int .i64 x)) (some b):=z03 w ⟨b,j,none⟩ _;have hk:∀ b',b'<w.heap.size->b'≠b->(w.setCell ⟨b,j,none⟩ (.int .i64 x)).heap[b']?=w.heap[b']?:=fun b' hb' hne=>hg.block b' hb' (fun e=>hne (by injection e))
 refine ⟨⟨(hk p h.plt (by omega)).trans h.r,?_,?_,h.on,⟨?_,?_,fun i l' hi=>?_⟩,⟨h.l.1,?_⟩,h.k,h.st,h.ol,h.dp,h.nl,fun b hb=>q_1 (h.lt b hb) hg.size⟩,?_⟩
 ·obtain ⟨A,c,i1,i2,i3,i4,i5⟩:=h.i;refine ⟨A,c,i1,i2,i3,fun j u hu=>?_,i5⟩;obtain ⟨ad,e,hc⟩:=i4 j u hu;have hb:=i5 ad e;have hp:=h.plt;exact ⟨ad,e,(q_6 (a:=ad.add j) (hk _ (by rw [z0i]; omega) (by rw [z0i]; omega))).trans hc⟩
 ·obtain ⟨L,ho⟩:=h.o;exact ⟨L,z1q ho fun b' hb'=>hk b' (h.out_lt hb').2 (fun e=>(h.on b' hb').2.1 (e ▸ hbm))⟩
 ·rw [<- h.g.ln];apply List.ext_getElem?;intro i;simp only [q_b,List.getElem?_set];split
  ·rename_i e;subst e;have hlt:n<s.gl.length:=by
    rcases q_f n s.gl.length with h' | h'
    ·exact h'
    ·rw [q_j h'] at hn; cases hn
   rw [if_pos hlt,hn];simp
  ·rfl
 ·rcases h.g.sl with e | e
  ·exact .inl (by rw [e]; rfl)
  ·exact .inr (by simpa using e)
 ·rw [List.getElem?_set] at hi;split at hi
  ·rename_i e;subst e;split at hi
   ·injection hi with hi;subst hi;obtain ⟨b',c,e1,e2,e3⟩:=h.g.at_ n l hn;rw [hb] at e1;injection e1 with e1;subst e1;exact ⟨b,c,hb,(q_6 (a:=⟨K.gb,n,none⟩) (hk _ (q_k w _ e2) (fun e=>h.k.gn (by have e':K.gb=b:=e; rw [e']; exact hbm)))).trans (by simpa using e2),e3.set_ x⟩
   ·cases hi
  ·rename_i hne;obtain ⟨b',c,e1,e2,e3⟩:=h.g.at_ i l' hi;have hbb:b'≠b:=fun e=>by
    subst e;have hl1:n<K.ga.length:=by
     rcases q_f n K.ga.length with h' | h'
     ·exact h'
     ·rw [q_j h'] at hb; cases hb
    exact hne ((List.getElem?_inj hl1 h.k.nd).1 (hb.trans e1.symm))
   exact ⟨b',c,e1,(q_6 (a:=⟨K.gb,i,none⟩) (hk _ (q_k w _ e2) (fun e=>h.k.gn (by have e':K.gb=b:=e; rw [e']; exact hbm)))).trans e2,(hk b' e3.lt hbb).trans e3⟩
 ·rcases h.l.2 with h1 | ⟨h1,h2,h3,h4,h5⟩
  ·exact .inl h1
  ·exact .inr ⟨h1,h2,h3,h4,(hk lb h5.lt (fun e=>h3 (e ▸ hbm))).trans h5⟩
 ·exact ⟨z05 hg (fun k hk=>by injection hk with hk; omega) (by have:=h.plt; omega),fun b' hb' _ _ e3 _=>hk b' hb' (fun e=>e3 (e ▸ hbm)),fun b' e=>.inl (z2T (hk p h.plt (by omega)) e)⟩
theorem RunM.outp {v2:Value} {L2:List Value} {z:Int} (h:RunM p K lb nl dp s iv ov lv w) (hg:w.grownBy w2 ov.ownBlock) (hgr:GRow 1 3 ZInt (p+1) w2 v2 (s.out++[z]) L2) (hat:∀ b,v2.ownBlock=some b->ov.ownBlock=some b\/w.heap.size<=b) (hol:s.out.length<4096) :
  RunM p K lb nl dp { s with out:=s.out++[z] } iv v2 lv (w2.setCell ⟨p,7,none⟩ v2)/\FrZ p K lb w (w2.setCell ⟨p,7,none⟩ v2):=by
 have hop:∀ b,ov.ownBlock=some b->p<b:=fun b e=>(h.out_lt e).1
 have hg3:w2.grownBy (w2.setCell ⟨p,7,none⟩ v2) (some p):=z03 w2 ⟨p,7,none⟩ _;have hk:∀ b,b<w.heap.size->b≠p->ov.ownBlock≠some b->(w2.setCell ⟨p,7,none⟩ v2).heap[b]?=w.heap[b]?:=fun b hb hne ho=>(hg3.block b (q_1 hb hg.size) (fun e=>hne (by injection e))).trans (hg.block b hb (fun e=>ho e.symm))
 have hp2:=(hg.block p h.plt (fun e=>by have:=hop p e.symm; omega)).trans h.r;have hsz:=q_9 hg.size hg3.size;have hgk:s.gl≠[]->p<K.gb:=fun hne=>by
  rcases h.k.gp with e | e
  ·have hl:=h.g.ln;rw [e] at hl;exact absurd (List.map_eq_nil_iff.1 hl) hne
  ·exact e
 have h3:RunM p K lb nl dp { s with out:=s.out++[z] } iv v2 lv (w2.setCell ⟨p,7,none⟩ v2):=by
  refine ⟨z0a (i:=7) _ hp2,?_,⟨L2,hgr.grown z0f hg3 (by omega)⟩,fun b hb=>?_,⟨h.g.ln,h.g.sl,fun i l hi=>?_⟩,⟨h.l.1,?_⟩,h.k,h.st,by simp; omega,h.dp,h.nl,fun b hb=>q_1 (h.lt b hb) hsz⟩
  ·obtain ⟨A,c,i1,i2,i3,i4,i5⟩:=h.i;refine ⟨A,c,i1,i2,i3,fun j u hu=>?_,i5⟩;obtain ⟨ad,e,hc⟩:=i4 j u hu;have hb:=i5 ad e;have hp:=h.plt;exact ⟨ad,e,(q_6 (a:=ad.add j) (hk _ (by rw [z0i]; omega) (by rw [z0i]; omega) (fun e=>by rw [z0i] at e; have:=hop _ e; omega))).trans hc⟩
  ·rcases hat b hb with e | e
   ·exact h.on b e
   ·refine ⟨fun e2=>?_,fun e2=>?_,fun e2=>?_⟩
    ·rcases h.l.2 with ⟨_,e3,_⟩ | ⟨_,_,_,_,e3⟩
     ·have:=h.plt; omega
     ·have:=e3.lt; omega
    ·have:=h.lt b (.inr e2); omega
    ·have:=h.lt b (.inl e2); omega
  ·obtain ⟨b,c,e1,e2,e3⟩:=h.g.at_ i l hi;have hgb:=hgk (fun e=>by rw [e] at hi; simp at hi);have hbm:=q_a e1;have hb:=h.k.ga b hbm;exact ⟨b,c,e1,(q_6 (a:=⟨K.gb,i,none⟩) (hk _ (q_k w _ e2) (fun e=>by have e':K.gb=p:=e; omega) (fun e=>(h.on _ e).2.2 rfl))).trans e2,(hk b e3.lt (by omega) (fun e=>(h.on _ e).2.1 hbm)).trans e3⟩
  ·rcases h.l.2 with h1 | ⟨h1,h2,h3,h4,h5⟩
   ·exact .inl h1
   ·exact .inr ⟨h1,h2,h3,h4,(hk lb h5.lt (by omega) (fun e=>(h.on _ e).1 rfl)).trans h5⟩
 refine ⟨h3,⟨?_,fun b hb hne _ _ ho=>hk b hb hne (fun e=>ho ((h.out_iff b).2 e)),fun b e=>?_⟩⟩
 ·have h1:Below p w w2:=z05 hg (fun k hk=>by have:=hop k hk; omega) (by have:=h.plt; omega);exact h1.trans (z05 hg3 (fun k hk=>by injection hk with hk; omega) (by have:=h.plt; have:=hg.size; omega))
 ·rcases hat b ((h3.out_iff b).1 e) with e2 | e2
  ·exact .inl ((h.out_iff b).2 e2)
  ·exact .inr e2
end
structure FwZ (p:Nat) (K:RK) (lb nl:Nat) (dp:Int) (w:World) (B:Nat) (s:Sx) (W:World):Prop where
 rs:RunS p K lb nl dp s W
 fr:FrZ p K lb w W
 z:W.heap[B]?=some (.cells #[.int .i64 0,.int .i64 0] 61 (0,0))
 f:z2n p K lb W B
 B:w.heap.size<=B
 p:p<w.heap.size
section
variable {p:Nat} {K:RK} {lb nl:Nat} {dp:Int} {s s':Sx} {w W W':World} {B:Nat}
theorem FwZ.new (h:RunS p K lb nl dp s w):FwZ p K lb nl dp w w.heap.size s (w.alloc (.cells #[.int .i64 0,.int .i64 0] 61)) :=
 have hb:=(q_i _ w).alloc (q_2 _) (.cells #[.int .i64 0,.int .i64 0] 61)
 ⟨h.below hb,(FrZ.refl _ _ _ _).below hb h.lt,q_4 w _,z1e (h.free (q_2 _)) hb h.lt,q_2 _,h.lt⟩
theorem FwZ.wp (h:FwZ p K lb nl dp w B s W):p<W.heap.size:=q_1 h.p h.fr.lo.size
theorem FwZ.lt (h:FwZ p K lb nl dp w B s W):B<W.heap.size:=(q_0.1 h.z).1
theorem FwZ.low (h:FwZ p K lb nl dp w B s W) (hb:Below W.heap.size W W'):FwZ p K lb nl dp w B s W' :=
 ⟨h.rs.below hb,h.fr.below hb h.p,(hb.block _ h.lt).trans h.z,z1e h.f hb h.wp,h.B,h.p⟩
theorem FwZ.alloc (h:FwZ p K lb nl dp w B s W) (o:Obj):FwZ p K lb nl dp w B s (W.alloc o):=h.low ((q_i _ _).alloc (q_2 _) o)
theorem FwZ.drewN (h:FwZ p K lb nl dp w B s W) (n:Nat):FwZ p K lb nl dp w B s (W.drewN n):=h.low (z17 (q_i _ _) n)
theorem FwZ.call (h:FwZ p K lb nl dp w B s W) (hr:RunS p K lb nl dp s' W') (hf:FrZ p K lb W W'):FwZ p K lb nl dp w B s' W' :=
 ⟨hr,h.fr.trans hf,hf.at_ h.f h.z,hf.free h.lt h.f,h.B,h.p⟩
theorem FwZ.put {b:Nat} (h:FwZ p K lb nl dp w B s W) (hg:W.grownBy W' (some b)) (hf:z2n p K lb W b) (hb:w.heap.size<=b) (hne:b≠B):FwZ p K lb nl dp w B s W' :=
 ⟨h.rs.grown hg hf,h.fr.put hg hb h.p,(hg.block B h.lt (fun e=>hne (by injection e with e; exact e.symm))).trans h.z,z3F h.f hg h.wp (by have:=h.p; omega),h.B,h.p⟩
theorem FwZ.fin (h:FwZ p K lb nl dp w B s W) (hg:W.grownBy W' (some B)):RunS p K lb nl dp s W'/\FrZ p K lb w W':=⟨h.rs.grown hg h.f,h.fr.put hg h.B h.p⟩
theorem FwZ.two (h:FwZ p K lb nl dp w B s W) (v0 v1:Value):((W.setCell ⟨B,0,none⟩ v0).setCell ⟨B,1,none⟩ v1).cell? ⟨B,0,none⟩=some v0/\((W.setCell ⟨B,0,none⟩ v0).setCell ⟨B,1,none⟩ v1).cell? ⟨B,1,none⟩=some v1/\RunS p K lb nl dp s ((W.setCell ⟨B,0,none⟩ v0).setCell ⟨B,1,none⟩ v1)/\FrZ p K lb w ((W.setCell ⟨B,0,none⟩ v0).setCell ⟨B,1,none⟩ v1):=by
 have h1:((W.setCell ⟨B,0,none⟩ v0).setCell ⟨B,1,none⟩ v1).heap[B]?=some (.cells #[v0,v1] 61 (0,0)):=z0a (i:=1) v1 (z0a (i:=0) v0 h.z);have hg:W.grownBy ((W.setCell ⟨B,0,none⟩ v0).setCell ⟨B,1,none⟩ v1) (some B):=(z03 W ⟨B,0,none⟩ v0).trans (z03 _ ⟨B,1,none⟩ v1);exact ⟨zcr 0 h1,zcr 1 h1,h.fin hg⟩
theorem FwZ.twoA (h:FwZ p K lb nl dp w B s W) (v0 v1:Value) (o:Obj):(((W.setCell ⟨B,0,none⟩ v0).setCell ⟨B,1,none⟩ v1).alloc o).cell? ⟨B,0,none⟩=some v0/\(((W.setCell ⟨B,0,none⟩ v0).setCell ⟨B,1,none⟩ v1).alloc o).cell? ⟨B,1,none⟩=some v1/\RunS p K lb nl dp s (((W.setCell ⟨B,0,none⟩ v0).setCell ⟨B,1,none⟩ v1).alloc o)/\FrZ p K lb w (((W.setCell ⟨B,0,none⟩ v0).setCell ⟨B,1,none⟩ v1).alloc o):=by
 obtain ⟨h0,h1,h2,h3⟩:=h.two v0 v1;have hb:=(q_i _ ((W.setCell ⟨B,0,none⟩ v0).setCell ⟨B,1,none⟩ v1)).alloc (q_2 _) o;exact ⟨hold hb h0,hold hb h1,h2.below hb,h3.below hb h.p⟩
theorem FwZ.twoD (h:FwZ p K lb nl dp w B s W) (v0 v1:Value):((W.setCell ⟨B,0,none⟩ v0).setCell ⟨B,1,none⟩ v1).drew.cell? ⟨B,0,none⟩=some v0/\((W.setCell ⟨B,0,none⟩ v0).setCell ⟨B,1,none⟩ v1).drew.cell? ⟨B,1,none⟩=some v1/\RunS p K lb nl dp s ((W.setCell ⟨B,0,none⟩ v0).setCell ⟨B,1,none⟩ v1).drew/\FrZ p K lb w ((W.setCell ⟨B,0,none⟩ v0).setCell ⟨B,1,none⟩ v1).drew:=by
 obtain ⟨h0,h1,h2,h3⟩:=h.two v0 v1;have hb:=z0m (q_i ((W.setCell ⟨B,0,none⟩ v0).setCell ⟨B,1,none⟩ v1).heap.size ((W.setCell ⟨B,0,none⟩ v0).setCell ⟨B,1,none⟩ v1));exact ⟨h0,h1,h2.below hb,h3.below hb h.p⟩
theorem FwZ.twoE (h:FwZ p K lb nl dp w B s W) (v0 v1:Value) (o:Obj):(((W.setCell ⟨B,0,none⟩ v0).setCell ⟨B,1,none⟩ v1).alloc o).drew.cell? ⟨B,0,none⟩=some v0/\(((W.setCell ⟨B,0,none⟩ v0).setCell ⟨B,1,none⟩ v1).alloc o).drew.cell? ⟨B,1,none⟩=some v1/\RunS p K lb nl dp s (((W.setCell ⟨B,0,none⟩ v0).setCell ⟨B,1,none⟩ v1).alloc o).drew/\FrZ p K lb w (((W.setCell ⟨B,0,none⟩ v0).setCell ⟨B,1,none⟩ v1).alloc o).drew:=by
 obtain ⟨h0,h1,h2,h3⟩:=h.twoA v0 v1 o;have hb:=z0m (q_i (((W.setCell ⟨B,0,none⟩ v0).setCell ⟨B,1,none⟩ v1).alloc o).heap.size (((W.setCell ⟨B,0,none⟩ v0).setCell ⟨B,1,none⟩ v1).alloc o));exact ⟨h0,h1,h2.below hb,h3.below hb h.p⟩
end
def ZG (p:Nat) (K:RK) (lb nl:Nat) (dp:Int) (y:Rz) (w:World) (e:Ending) (w':World):Prop :=
 e=.returned (.tuple #[.int .i64 y.1.1,.agg #[.int .i64 y.1.2.1,.int .i64 y.1.2.2]])/\RunS p K lb nl dp y.2 w'/\FrZ p K lb w w'
def ZE (p:Nat) (K:RK) (lb nl:Nat) (dp:Int) (y:Rz) (w:World) (e:Ending) (w':World):Prop :=
 e=.returned (.agg #[.int .i64 y.1.2.1,.int .i64 y.1.2.2])/\RunS p K lb nl dp y.2 w'/\FrZ p K lb w w'
def z2y (ls:Int) (s:Sx):Rz:=if ls<=s.st then ((0,3,0),s) else ((0,0,0),tick s)
section
variable {p:Nat} {K:RK} {lb nl:Nat} {dp:Int} {s:Sx} {w:World}
theorem za3 (h:RunS p K lb nl dp s w):Calls Tryz.prog 74 #[.pointer (some ⟨p,0,none⟩)] w (ZE p K lb nl dp (z2y K.ls s) w):=by
 have hb:=h.bound;obtain ⟨iv,ov,lv,h⟩:=h;refine (zeh w h.r hb.1 (by have:=hb.2.1; dsimp only; omega)).mono ?_;rintro e w1 ⟨rfl,hr,hg⟩;unfold z5n at hr ⊢;unfold z2y;dsimp only at hr ⊢
 by_cases hl:K.ls<=s.st
 ·rw [if_pos hl] at hr ⊢;rw [if_pos hl];have h1:RunM p K lb nl dp s iv ov lv w1:=h.self hg hr (h.i.grown hg h.plt) (h.l.grown hg) rfl rfl (fun b hb=>(h.on b hb).1) h.st h.dp h.nl;exact ⟨rfl,⟨iv,ov,lv,h1⟩,z2Z hg h.plt fun b e=>(h.out_iff b).2 ((h1.out_iff b).1 e)⟩
 ·rw [if_neg hl] at hr ⊢;rw [if_neg hl];have h1:RunM p K lb nl dp (tick s) iv ov lv w1:=h.self hg hr (h.i.grown hg h.plt) (h.l.grown hg) rfl rfl (fun b hb=>(h.on b hb).1) ⟨by show 0<=s.st+1; omega,by show s.st+1<=_; omega⟩ h.dp h.nl;exact ⟨rfl,⟨iv,ov,lv,h1⟩,z2Z hg h.plt fun b e=>(h.out_iff b).2 ((h1.out_iff b).1 e)⟩
def ElZ (p:Nat) (K:RK) (lb nl:Nat) (dp:Int) (s:Sx) (n i:Int) (w:World) (e:Ending) (w':World):Prop :=
 ((0<=i/\i<((glAt s n).length:Int)/\∃ b,K.ga[n.toNat]?=some b/\e=.returned (.tuple #[.pointer (some ⟨b,i.toNat,none⟩),.agg #[.int .i64 0,.int .i64 0]])) \/
  (¬ (0<=i/\i<((glAt s n).length:Int))/\e=.returned (.tuple #[.pointer none,.agg #[.int .i64 2,.int .i64 2]])))/\RunS p K lb nl dp s w'/\FrZ p K lb w w'
theorem z5D (h:RunS p K lb nl dp s w) (n i:Int) (hn:0<=n) (hn2:n.toNat<K.gs.length):Calls Tryz.prog 93 #[.pointer (some ⟨p,0,none⟩),.int .i64 n,.int .i64 i] w (ElZ p K lb nl dp s n i w):=by
 obtain ⟨N,rfl⟩:∃ N:Nat,n=(N:Int):=⟨n.toNat,by omega⟩;have hF:=zhi (FwZ.new h);obtain ⟨iv,ov,lv,h⟩:=h;have hgl:s.gl.length=K.gs.length:=by rw [<- h.g.ln,List.length_map]
 have hN:N<s.gl.length:=by omega
 obtain ⟨l,hl⟩:∃ l,s.gl[N]?=some l:=⟨_,q_7 hN⟩;obtain ⟨b,c,hb,hc,hi⟩:=h.g.at_ N l hl;have hle:l.length<=1000000:=h.k.gm l.length (by rw [<- h.g.ln]; exact List.mem_map.2 ⟨l,q_a hl,rfl⟩);obtain ⟨gc,hgv⟩:∃ c,K.gv=.slice (some ⟨K.gb,0,none⟩) s.gl.length c:=by
  rcases h.g.sl with e | e
  ·rw [e] at hN; simp at hN
  ·exact e
 have hk8:=h.k.gl;have c8:=zcr 8 h.r;have hb1:=(q_i _ w).alloc (q_2 _) (.cells #[.int .i64 0,.int .i64 0] 61);have d8:(w.alloc (.cells #[.int .i64 0,.int .i64 0] 61)).cell? ⟨p,8,none⟩=some (.slice (some ⟨K.gb,0,none⟩) s.gl.length gc):=by
  rw [<- hgv];exact hold hb1 c8
 have dc:=hold hb1 hc;have HG:Hid (glAt s (N:Int)=l):=zhi (by
  unfold glAt;rw [List.getD_eq_getElem?_getD];simp [hl])
 have HB:=zhi hb;clear c8 hc hb1 hgv hi hb h hn hn2 hl;obtain ⟨W,hW⟩:∃ W,W=w.alloc (.cells #[.int .i64 0,.int .i64 0] 61):=⟨_,rfl⟩;rw [<- hW] at hF d8 dc;obtain ⟨m,hm⟩:∃ m,m=l.length:=⟨_,rfl⟩;obtain ⟨gn,hgn⟩:∃ gn,gn=s.gl.length:=⟨_,rfl⟩;rw [<- hm] at dc hle;rw [<- hgn] at d8 hgl hN;have HM:=zhi hm;clear hm hgn
 by_cases hr:0<=i/\i<(m:Int)
 ·obtain ⟨I,rfl⟩:∃ I:Nat,i=(I:Int):=⟨i.toNat,by omega⟩;have hI:I<m:=by omega
  have i1:((I:Int)<0)=False:=eq_false (by omega);have i2:((m:Int)<=(I:Int))=False:=eq_false (by omega);clear hr;go_enter Tryz.func93,Tryz.ntmps93;go_upto_region 1 with fail;rw [<- hW];clear hW;go_wp2_with (with_reducible refine z0d ?_);refine z07.of (z00 _ rfl _ _ _ rfl w.heap.size _ rfl (by rfl) _ _ hF.out.z (by kernel_rfl) (by rfl) (by simp [Value.oneCell']) ?_);intro w9 hrow9 hg9;obtain ⟨j0,j1⟩:=cl2 hrow9;have hfin:=hF.out.fin hg9;have HH:Hid (ElZ p K lb nl dp s (N:Int) (I:Int) w (.returned (.tuple #[.pointer (some ⟨b,I,none⟩),.agg #[.int .i64 0,.int .i64 0]])) w9):=zhi ⟨.inl ⟨by omega,by rw [HG.out,<- HM.out]; omega,b,by simpa using HB.out,by simp⟩,hfin⟩;clear hrow9 hg9 hfin;go_wp2_with fail;exact q_3 (by simp [results,Tryz.results93,go_sem,j0,j1]) rfl HH.out
 ·by_cases h0:i<0
  ·have i1:(i<0)=True:=eq_true h0;go_enter Tryz.func93,Tryz.ntmps93;go_upto_region 1 with fail;rw [<- hW];clear hW;go_wp2_with (with_reducible refine z0d ?_);refine z07.of (z00 _ rfl _ _ _ rfl w.heap.size _ rfl (by rfl) _ _ hF.out.z (by kernel_rfl) (by rfl) (by simp [Value.oneCell']) ?_);intro w9 hrow9 hg9;obtain ⟨j0,j1⟩:=cl2 hrow9;have hfin:=hF.out.fin hg9;have HH:Hid (ElZ p K lb nl dp s (N:Int) i w (.returned (.tuple #[.pointer none,.agg #[.int .i64 2,.int .i64 2]])) w9):=zhi ⟨.inr ⟨fun e=>by rw [HG.out,<- HM.out] at e; omega,rfl⟩,hfin⟩;clear hrow9 hg9 hfin;go_wp2_with fail;exact q_3 (by simp [results,Tryz.results93,go_sem,j0,j1]) rfl HH.out
  ·obtain ⟨I,rfl⟩:∃ I:Nat,i=(I:Int):=⟨i.toNat,by omega⟩;have i1:((I:Int)<0)=False:=eq_false (by omega);have i2:((m:Int)<=(I:Int))=True:=eq_true (by omega);go_enter Tryz.func93,Tryz.ntmps93;go_upto_region 1 with fail;rw [<- hW];clear hW;go_wp2_with (with_reducible refine z0d ?_);refine z07.of (z00 _ rfl _ _ _ rfl w.heap.size _ rfl (by rfl) _ _ hF.out.z (by kernel_rfl) (by rfl) (by simp [Value.oneCell']) ?_);intro w9 hrow9 hg9;obtain ⟨j0,j1⟩:=cl2 hrow9;have hfin:=hF.out.fin hg9;have HH:Hid (ElZ p K lb nl dp s (N:Int) (I:Int) w (.returned (.tuple #[.pointer none,.agg #[.int .i64 2,.int .i64 2]])) w9):=zhi ⟨.inr ⟨fun e=>by rw [HG.out,<- HM.out] at e; omega,rfl⟩,hfin⟩;clear hrow9 hg9 hfin;go_wp2_with fail;exact q_3 (by simp [results,Tryz.results93,go_sem,j0,j1]) rfl HH.out
def ReG (p:Nat) (K:RK) (lb nl:Nat) (dp:Int) (s:Sx) (w:World) (e:Ending) (w':World):Prop :=
 e=.returned (.int .i64 (s.inp.headD 0))/\RunS p K lb nl dp { s with inp:=s.inp.tail } w'/\FrZ p K lb w w'
theorem zeb (h:RunS p K lb nl dp s w):Calls Tryz.prog 89 #[.pointer (some ⟨p,0,none⟩)] w (ReG p K lb nl dp s w):=by
 obtain ⟨iv,ov,lv,h⟩:=h;obtain ⟨A,c,rfl,hlc,hlm,hrd,hlo⟩:=h.i;have c6:=zcr 6 h.r;have f6:=z09 h.r 6;have H:=zhi h;obtain ⟨st,inp,out,gl,lo⟩:=s;dsimp only at hlc hlm hrd c6;cases inp with
 | nil =>
  have hr:Hid (ReG p K lb nl dp ⟨st,[],out,gl,lo⟩ w (.returned (.int .i64 0)) w):=zhi ⟨rfl,⟨_,ov,lv,H.out⟩,FrZ.refl _ _ _ _⟩;have c6':w.cell? ⟨p,6,none⟩=some (.slice A 0 c):=c6;clear h H hrd hlo c6;go_enter Tryz.func89,Tryz.ntmps89;go_wp2_with fail;go_ret;exact hr.out
 | cons x inp =>
  obtain ⟨ad,rfl,hc⟩:=hrd 0 _ rfl;rw [z0N] at hc;have hg:w.grownBy (w.setCell ⟨p,6,none⟩ (.slice (if c=1 then some ad else (some ad).map (·.add 1)) inp.length (c - 1))) (some p):=z03 w ⟨p,6,none⟩ _;have hlen:(x :: inp).length=inp.length+1:=rfl;rw [hlen] at hlc hlm c6;have h1:RunM p K lb nl dp ⟨st,inp,out,gl,lo⟩ (.slice (if c=1 then some ad else (some ad).map (·.add 1)) inp.length (c - 1)) ov lv (w.setCell ⟨p,6,none⟩ (.slice (if c=1 then some ad else (some ad).map (·.add 1)) inp.length (c - 1))):=by
   refine h.self hg (z0a (i:=6) _ h.r) ?_ (h.l.grown hg) rfl rfl (fun b hb=>(h.on b hb).1) h.st h.dp h.nl;refine InZ.grown ⟨_,c - 1,rfl,by dsimp only; omega,by dsimp only; omega,?_,?_⟩ hg h.plt
   ·have:=Rd.cut (k:=1) (c:=c) hrd (by simp; omega);simpa using this
   ·intro ad' e;have hb:=hlo ad rfl;split at e
    ·injection e with e; rw [<- e]; exact hb
    ·simp at e; rw [<- e,z0i]; exact hb
  have hfr:FrZ p K lb w (w.setCell ⟨p,6,none⟩ (.slice (if c=1 then some ad else (some ad).map (·.add 1)) inp.length (c - 1))):=z2Z hg h.plt fun b e=>(h.out_iff b).2 ((h1.out_iff b).1 e)
  obtain ⟨m,hm⟩:∃ m,m=inp.length:=⟨_,rfl⟩;have HR:Hid (ReG p K lb nl dp ⟨st,x :: inp,out,gl,lo⟩ w (.returned (.int .i64 x)) (w.setCell ⟨p,6,none⟩ (.slice (if c=1 then some ad else (some ad).map (·.add 1)) m (c - 1)))):=zhi (by rw [hm]; exact ⟨rfl,⟨_,ov,lv,h1⟩,hfr⟩);rw [<- hm] at c6 hlc hlm;have Hm:=zhi hm;clear h H hrd hlo hg h1 hfr hlen hm
  by_cases hc1:c=1
  ·rw [if_pos hc1] at HR;subst hc1;obtain rfl:m=0:=by omega
   go_enter Tryz.func89,Tryz.ntmps89;go_wp2_with fail;go_ret;exact HR.out
  ·rw [if_neg hc1] at HR;go_enter Tryz.func89,Tryz.ntmps89;go_wp2_with fail;go_ret;exact HR.out
theorem zd0 (h:RunS p K lb nl dp s w) (z:Int):Calls Tryz.prog 78 #[.pointer (some ⟨p,0,none⟩),.int .i64 z] w (ZE p K lb nl dp (zPr z s) w):=by
 have hF:=zhi (FwZ.new h);have hbd:=h.bound.2.2.2.2.2.1;have h0:=h;obtain ⟨iv,ov,lv,h⟩:=RunS.below h ((q_i _ w).alloc (q_2 _) (.cells #[.int .i64 0,.int .i64 0] 61));obtain ⟨L,hgr⟩:=h.o;obtain ⟨oA,oc,rfl⟩:=z2b hgr;have c7:=zcr 7 h.r;have plt:=h0.lt;have HM:=zhi h;have HGR:=zhi hgr;have hs1:=(hF.out.lt);obtain ⟨m,hm⟩:∃ m,m=s.out.length:=⟨_,rfl⟩;rw [<- hm] at c7 hbd HM HGR;have Hm:=zhi hm;clear h hgr h0 hm;obtain ⟨W,hW⟩:∃ W,W=w.alloc (.cells #[.int .i64 0,.int .i64 0] 61):=⟨_,rfl⟩;rw [<- hW] at hF c7 HM HGR hs1
 by_cases hl:m=4096
 ·have i1:((m:Int) == 4096)=true:=by simp [hl]
  have HP:Hid (zPr z s=((0,3,0),s)):=zhi (if_pos (by rw [<- Hm.out]; exact hl));clear hl;go_enter Tryz.func78,Tryz.ntmps78;go_upto_region 1 with fail;rw [<- hW];clear hW;go_wp2_with (with_reducible refine z0d ?_);refine z07.of (z00 _ rfl _ _ _ rfl w.heap.size _ rfl (by rfl) _ _ hF.out.z (by kernel_rfl) (by rfl) (by simp [Value.oneCell']) ?_);intro w9 hrow9 hg9;obtain ⟨j0,j1⟩:=cl2 hrow9;have hfin:=hF.out.fin hg9;have HH:Hid (ZE p K lb nl dp (zPr z s) w (.returned (.agg #[.int .i64 3,.int .i64 0])) w9):=zhi (by rw [HP.out]; exact ⟨rfl,hfin⟩);clear hrow9 hg9 hfin;go_wp2_with fail;exact q_3 (by simp [results,Tryz.results78,go_sem,j0,j1]) rfl HH.out
 ·have i1:((m:Int) == 4096)=false:=by simp; omega
  have HP:Hid (zPr z s=((0,0,0),{ s with out:=s.out++[z] })):=zhi (if_neg (by rw [<- Hm.out]; exact hl));clear hl;go_enter Tryz.func78,Tryz.ntmps78;go_upto_region 1 with fail;rw [<- hW];clear hW;go_upto_region 3 with fail;go_wp2_with (at_builtin; refine z07.out ?_);have hgr0:=HGR.out;have hml:m<4096:=by
   rcases q_f m 4096 with h | h
   ·exact h
   ·simp at i1; omega
  refine z07.of (z1n (k:=1) (T:=3) (S:=23) (V:=ZInt) W rfl (.tmp 16) (.tmp 18) rfl z0f (.int .i64 0) 8 Tryz.underlying23 z2E rfl (by decide) (by decide) (p+1) (.slice oA m oc) s.out L z [.int .i64 z] (fun _=>False) rfl rfl hgr0 (by rw [<- Hm.out]; omega) (by omega) rfl (by simp [Value.oneCell']) rfl (fun b hb=>hb.elim) ?_);intro g2 cap2 w2 hgr2 hg2 hat2;obtain ⟨hr3,hf3⟩:=HM.out.outp hg2 hgr2 (fun b hb=>by
   have e:g2=b:=by simpa [Value.ownBlock] using hb
   subst e;exact hat2) (by rw [<- Hm.out]; exact hml)
  have hp2:w2.heap[p]?=W.heap[p]?:=hg2.block p (by omega) (fun e=>by have:=(HM.out.out_lt e.symm).1; omega);have hpr2:=hp2.trans HM.out.r;have x7:=zcr 7 hpr2;have f7:=z09 hpr2 7;have hF3:=zhi (hF.out.call ⟨_,_,_,hr3⟩ hf3);rw [<- Hm.out] at hF3 ⊢;clear hgr0 hgr2 hg2 hat2 hr3 hf3 hp2 hpr2 HM HGR;go_wp2_with (with_reducible refine z0d ?_);refine z07.of (z00 _ rfl _ _ _ rfl w.heap.size _ rfl (by rfl) _ _ hF3.out.z (by kernel_rfl) (by rfl) (by simp [Value.oneCell']) ?_);intro w9 hrow9 hg9;obtain ⟨j0,j1⟩:=cl2 hrow9;have hfin:=hF3.out.fin hg9;have HH:Hid (ZE p K lb nl dp (zPr z s) w (.returned (.agg #[.int .i64 0,.int .i64 0])) w9):=zhi (by rw [HP.out]; exact ⟨rfl,hfin⟩);clear hrow9 hg9 hfin;go_wp2_with fail;exact q_3 (by simp [results,Tryz.results78,go_sem,j0,j1]) rfl HH.out
end
end Go.Proofs.YtdflbhofmmlpgaaGreat
