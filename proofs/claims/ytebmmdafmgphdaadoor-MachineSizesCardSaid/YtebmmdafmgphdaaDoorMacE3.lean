/-
  The walk of machine.Encode. Condition: the table reads as the program's text lays it; the operands can be read; the Value fits 64 bits.
-/
import Derived.Test.YtebmmdafmgphdaaDoorMacE2
import Derived.Deep.RegionLaw
namespace Go.Proofs.YtebmmdafmgphdaaDoor
open Go.RowKit

theorem cell_iterAt {w : World} {it k k' : Nat} {s : ByteArray} {ad : Addr} {u : Value} (hit : w.heap[it]? = some (.stringIter s k)) (h : w.cell? ad = some u) : (w.iterAt it s k').cell? ad = some u := by
  have hne : ad.block ≠ it := by
    intro e
    simp [World.cell?, e, hit] at h
  simp only [World.cell?] at h ⊢
  rw [Lib.iterAt_other w it ad.block s k' hne]
  exact h
theorem Sl.iter {w : World} {base it k k' : Nat} {T : TypeId} {v : Value} {xs : List Value} {s : ByteArray} (h : Sl w base T v xs) (hit : w.heap[it]? = some (.stringIter s k)) : Sl (w.iterAt it s k') base T v xs := by
  rcases h with h | ⟨A, rfl, hr, h0⟩
  · refine .inl (h.kept (row := some it) ⟨rfl, rfl, rfl, by rw [Lib.iterAt_size]; exact Nat.le_refl _, fun i _ hi => Lib.iterAt_other w it i s k' (fun e => hi (by rw [e]))⟩ ?_)
    rcases h.2 with ⟨rfl, _⟩ | ⟨g, cap, cur, rfl, _, hg, _⟩
    · exact .inl rfl
    · refine .inr ?_
      intro e
      simp only [Value.ownBlock, Option.some.injEq] at e
      rw [e, hit] at hg
      cases hg
  · exact .inr ⟨A, rfl, fun j u hu => by
      obtain ⟨ad, e, hc⟩ := hr j u hu
      exact ⟨ad, e, cell_iterAt hit hc⟩, h0⟩
theorem BI.lowB {w0 w w' : World} {p it k B : Nat} {row : Array Value} {l : List Nat} (h : BI w0 p it row l k w) (hb : Below B w w') (hp : p < B) (hi : it < B) (hB : w0.heap.size ≤ B) : BI w0 p it row l k w' :=
  ⟨(hb.block _ hp).trans h.row, (hb.block _ hi).trans h.iter, h.ne, h.bel.trans (hb.mono hB), h.lo⟩
/-- The number that a letter names. -/
def fvN (x : Cd) (c : Nat) : Int := if c = 100 then x.dst else if c = 97 then x.a else if c = 98 then x.b else if c = 111 then x.ari else x.val
theorem enc_fv (n : Nat) (ari dst a b val : Int) (wide : Bool) (l : List Int) (hn : n < 19) (h1 : 1 ≤ n) : ∀ f ∈ rowC (n : Int), fdN f ≠ 108 → encF ⟨n, ari, dst, a, b, val, wide, l⟩ f = leB (wdN n wide (fdN f)).toNat (fvN ⟨n, ari, dst, a, b, val, wide, l⟩ (fdN f)) := by
  rcases in_18 hn h1 with rfl | rfl | rfl | rfl | rfl | rfl | rfl | rfl | rfl | rfl | rfl | rfl | rfl | rfl | rfl | rfl | rfl | rfl <;> cases wide <;> simp [rowC, rowsC, fdN, encF, widC, wdN, isJ, sizeN, fvN]
theorem fld_cell {w : World} {p : Nat} (op ari dst a b val : Int) (wide : Bool) (l : List Int) (v : Value) (h : w.heap[p]? = some (.cells (kRow op ari dst a b val wide v) 26 (0, 0))) (c : Nat) : w.cell? ⟨p, fldN c, none⟩ = some (.int .i64 (fvN ⟨op, ari, dst, a, b, val, wide, l⟩ c)) := by
  obtain ⟨q0, q1, q2, q3, q4, q5, q6, q7⟩ := kRow_cells h
  unfold fldN fvN
  split
  · exact q2
  · split
    · exact q3
    · split
      · exact q4
      · split
        · exact q1
        · exact q5
/-- Encode under way. -/
structure EnR (w0 : World) (p it base : Nat) (row : Array Value) (l : List Nat) (x : Cd) (fs : List Fd) (v : Value) (j : Nat) (w : World) : Prop where
  bi : BI w0 p it row l j w
  sl : Sl w base 5 v ((headC x :: (fs.take j).flatMap (encF x)).map bv)
  sz : base ≤ w.heap.size
  lt : p < base ∧ it < base ∧ w0.heap.size ≤ base
set_option maxHeartbeats 1600000 in
set_option maxRecDepth 10000 in
theorem mencode_any (x : Cd) (A : Option Addr) (n c : Nat) (w : World) (hT : RowsT w) (hn : x.args.length = n) (hc : n ≤ c) (hr : Rd w A (x.args.map iz)) (h1 : n ≤ 1000) (hv : i64C x.val) :
    Calls Tryd.prog 9 #[cdv x (.slice A n c)] w (EncP x w) := by
  have HC := Lib.hid (fun w1 (hb : Below w.heap.size w w1) => mcheck_any x A n c w1 (hT.below hb) hn hc (hr.below hb) h1 hv)
  have HT := Lib.hid hT; clear hT
  have Hop := Lib.hid (fun h : chkC x = 0 => row_in (chk_parts h).1)
  have Hmost := Lib.hid (fun h : chkC x = 0 => enc_most h)
  obtain ⟨op, ari, dst, a, b, val, wide, args⟩ := x
  dsimp only at hn hr hv Hop Hmost
  have Hr := Lib.hid hr; clear hr
  have Hn := Lib.hid hn; clear hn hv
  obtain ⟨E, hE⟩ : ∃ E, chkC ⟨op, ari, dst, a, b, val, wide, args⟩ = E := ⟨_, rfl⟩
  rw [hE] at HC Hop Hmost
  have HE := Lib.hid hE
  clear hE
  dsimp only [cdv] at HC ⊢
  go_enter Tryd.func9, Tryd.ntmps9
  go_upto_region 1 with fail
  obtain ⟨w1, hw1⟩ : ∃ w1, w.alloc (.cells (kRow op ari dst a b val wide (.slice A n c)) 26) = w1 := ⟨_, rfl⟩
  have hrow : w1.heap[w.heap.size]? = some (.cells (kRow op ari dst a b val wide (.slice A n c)) 26 (0, 0)) := by rw [← hw1]; exact heap_alloc_new w _
  have hb : Below w.heap.size w w1 := by rw [← hw1]; exact (Below.refl _ _).alloc (Nat.le_refl _) _
  unfold kRow at hw1
  rw [hw1]
  obtain ⟨q0, q1, q2, q3, q4, q5, q6, q7⟩ := kRow_cells hrow
  have Hrow := Lib.hid hrow
  have Hb := Lib.hid hb
  have HC1 := Lib.hid (HC.out w1 hb)
  clear hrow hb hw1 HC
  go_wp2_with fail
  refine HC1.out.mono ?_
  rintro e w2 ⟨rfl, hb2⟩
  have Hb2 := Lib.hid (below_next Hb.out hb2)
  have Hrow2 := Lib.hid ((hb2.block _ (Array.getElem?_eq_some_iff.1 Hrow.out).1).trans Hrow.out)
  clear hb2 q0 q1 q2 q3 q4 q5 q6 q7 HC1 Hrow Hb
  by_cases h0 : E = 0
  · subst h0
    obtain ⟨k, hk, hk1, rfl⟩ := Hop.out rfl
    have HL : Hid (encO ⟨k, ari, dst, a, b, val, wide, args⟩ = encC ⟨k, ari, dst, a, b, val, wide, args⟩) := Lib.hid (by
      unfold encO
      rw [if_pos HE.out])
    have Hj : Hid (wide = true → isJ (k : Int) = true) := Lib.hid (by
      have h := HE.out
      unfold chkC at h
      split at h
      · cases h
      · rename_i h2
        intro h3
        cases h4 : isJ (k : Int) with
        | true => rfl
        | false => exact (h2 (.inr (.inr ⟨h3, h4⟩))).elim)
    have hmost := Hmost.out rfl
    clear Hmost Hop
    rw [Hn.out] at hmost
    have Hmost := Lib.hid hmost
    clear hmost
    obtain ⟨p, hp⟩ : ∃ p, w.heap.size = p := ⟨_, rfl⟩
    have hwp : w.heap.size ≤ p := by omega
    have hrow2 := Hrow2.out
    rw [hp] at hrow2 ⊢
    obtain ⟨q0, q1, q2, q3, q4, q5, q6, q7⟩ := kRow_cells hrow2
    have hplt : p < w2.heap.size := (Array.getElem?_eq_some_iff.1 hrow2).1
    clear hp
    have hm : (k : Int) % 256 = (k : Int) := by omega
    obtain ⟨B, hB⟩ : ∃ B, w2.heap.size = B := ⟨_, rfl⟩
    go_upto_region 5 with fail
    obtain ⟨w3, hw3⟩ : ∃ w3, w2.alloc (.cells #[.int .u8 (k : Int)] 5) = w3 := ⟨_, rfl⟩
    have hb3 : w3.heap[B]? = some (.cells #[.int .u8 (k : Int)] 5 (0, 0)) := by rw [← hw3, ← hB]; exact heap_alloc_new w2 _
    have hbel3 : Below w2.heap.size w2 w3 := by rw [← hw3]; exact (Below.refl _ _).alloc (Nat.le_refl _) _
    rw [hw3]
    rw [hB] at hbel3 hplt
    have Hbel3 := Lib.hid hbel3
    have c3 : w3.cell? ⟨B, 0, none⟩ = some (.int .u8 (k : Int)) := (cell_of_row _ _ _ _ _ _ hb3).trans rfl
    have f3 := codes_frozen hb3 0
    have hB3 : B < w3.heap.size := (Array.getElem?_eq_some_iff.1 hb3).1
    clear hw3 hbel3 hB
    have hrowp := hrow2
    have hrow3 : w3.heap[p]? = some (.cells (kRow k ari dst a b val wide (.slice A n c)) 26 (0, 0)) := (Hbel3.out.block _ hplt).trans hrow2
    have Hrow3 := Lib.hid hrow3
    clear q0 q1 q2 q3 q4 q5 q6 q7 hrow2 Hrow2
    obtain ⟨q0, q1, q2, q3, q4, q5, q6, q7⟩ := kRow_cells hrow3
    clear hrow3
    go_upto_if 18 with fail
    go_cut [] from 19 (fun wd => B < wd.heap.size ∧ Below B w2 wd ∧ wd.cell? ⟨B, 0, none⟩ = some (bv (headC ⟨k, ari, dst, a, b, val, wide, args⟩)))
    case first =>
      cases wide with
      | false =>
        go_wp2_with fail
        go_meet
        case rel =>
          refine ⟨hB3, Hbel3.out, ?_⟩
          rw [c3]
          unfold bv headC
          simp only [Bool.false_eq_true, if_false]
          rw [Int.toNat_of_nonneg (by omega)]
          congr 2
          omega
      | true =>
        go_wp2_with fail
        go_meet
        case rel =>
          refine ⟨by simpa using hB3, Hbel3.out.setCell (Nat.le_refl _) _, ?_⟩
          rw [cell_of_row _ _ _ _ _ _ (heap_setCell_same w3 B 0 _ _ _ hb3)]
          show some (Value.int .u8 ((k : Int) + 128)) = _
          unfold bv headC
          simp only [if_true]
          rw [Int.toNat_of_nonneg (by omega)]
          congr 2
          omega
    case rest =>
      obtain ⟨hBc, hbc, hcc⟩ := hcut
      clear q0 q1 q2 q3 q4 q5 q6 q7 Hrow3 c3 f3 hb3 hB3 Hbel3 hm
      have hrowc : wc.heap[p]? = some (.cells (kRow k ari dst a b val wide (.slice A n c)) 26 (0, 0)) := (hbc.block _ hplt).trans hrowp
      have hbW : Below w.heap.size w wc := Hb2.out.trans (hbc.mono (by omega))
      have HT1 := (HT.out.below hbW).s k hk
      obtain ⟨q0, q1, q2, q3, q4, q5, q6, q7⟩ := kRow_cells hrowc
      have hpc : p < wc.heap.size := (Array.getElem?_eq_some_iff.1 hrowc).1
      have HE0 : Hid (EnR w p wc.heap.size (wc.heap.size + 1) (kRow k ari dst a b val wide (.slice A n c)) (lets k) ⟨k, ari, dst, a, b, val, wide, args⟩ (rowC (k : Int)) (.slice (some ⟨B, 0, none⟩) 1 1) 0 (wc.iter (strL (lets k)) 0)) := Lib.hid (by
        refine ⟨BI.first hrowc hbW hwp, .inr ⟨some ⟨B, 0, none⟩, by simp, ?_, by simp⟩, by simp [World.iter], by omega, by omega, by have := hbW.size; omega⟩
        have : (wc.iter (strL (lets k)) 0).cell? ⟨B, 0, none⟩ = some (bv (headC ⟨k, ari, dst, a, b, val, wide, args⟩)) := hold ((Below.refl _ _).alloc (Nat.le_refl _) _) hcc
        intro j u hu
        match j, hu with
        | 0, hu =>
          simp only [List.take_zero, List.flatMap_nil, List.map_cons, List.map_nil, List.getElem?_cons_zero, Option.some.injEq] at hu
          subst hu
          exact ⟨_, rfl, this⟩)
      have hll := lets_len k
      have hlsm := lets_small k
      have hlat : ∀ j f, (rowC (k : Int))[j]? = some f → (lets k)[j]? = some (fdN f) := fun j f h => lets_at hk h
      obtain ⟨it, hit⟩ : ∃ it, wc.heap.size = it := ⟨_, rfl⟩
      obtain ⟨l, hl⟩ : ∃ l, lets k = l := ⟨_, rfl⟩
      rw [hl] at HT1 HE0 hll hlsm hlat
      have Hll := Lib.hid hll
      have Hlsm := Lib.hid hlsm
      have Hlat := Lib.hid hlat
      clear hll hlsm hlat hl q1 q2 q3 q4 q5 q6 q7 hrowc hrowp hbc hcc
      go_wp2_with fail
      rw [hit] at HE0
      generalize wc.iter (strL l) 0 = w4 at HE0
      obtain ⟨base, hbase⟩ : ∃ base, it + 1 = base := ⟨_, rfl⟩
      rw [hbase] at HE0
      have Hlt := Lib.hid HE0.out.lt
      clear hit q0 HT1 hpc hbW hbase hBc
      go_loopw [5, 7] (fun u _ wr => ∃ j v, j ≤ l.length ∧ v = u ∧ EnR w p it base (kRow k ari dst a b val wide (.slice A n c)) l ⟨k, ari, dst, a, b, val, wide, args⟩ (rowC (k : Int)) v j wr) (fun _ _ wr => l.length - wr.iterPos it)
      case atStart => exact ⟨0, _, Nat.zero_le _, rfl, HE0.out⟩
      case round =>
        obtain ⟨j, v, hj, rfl, hen⟩ := hrel
        have Hpos := Lib.hid (it_pos hen.bi.iter)
        have Hen := Lib.hid hen
        clear HE0 hen
        by_cases hkl : j < l.length
        · obtain ⟨f, hf⟩ : ∃ f, (rowC (k : Int))[j]? = some f := ⟨_, List.getElem?_eq_getElem (by rw [← Hll.out]; exact hkl)⟩
          have hnx : ∀ ty, (Instr.next (.pointer (some ⟨it, 0, none⟩)) true ty).run Tryd.prog wr = _ := fun ty => it_next wr it j (fdN f) l Hen.out.bi.iter (Hlat.out j f hf) Hlsm.out ty
          have h5 : Hid ((headC ⟨k, ari, dst, a, b, val, wide, args⟩ :: ((rowC (k : Int)).take (j + 1)).flatMap (encF ⟨k, ari, dst, a, b, val, wide, args⟩)).map bv = (headC ⟨k, ari, dst, a, b, val, wide, args⟩ :: ((rowC (k : Int)).take j).flatMap (encF ⟨k, ari, dst, a, b, val, wide, args⟩)).map bv ++ (encF ⟨k, ari, dst, a, b, val, wide, args⟩ f).map bv) := Lib.hid (by
            rw [List.take_add_one, hf, List.flatMap_append, ← List.cons_append, List.map_append]
            simp)
          have h8 : ((headC ⟨k, ari, dst, a, b, val, wide, args⟩ :: ((rowC (k : Int)).take j).flatMap (encF ⟨k, ari, dst, a, b, val, wide, args⟩)).map bv).length ≤ 1013 := by
            have h7 := flat_most ⟨k, ari, dst, a, b, val, wide, args⟩ (rowC (k : Int)) j
            have h9 := Hmost.out
            unfold encC at h9
            rw [List.length_cons] at h9
            rw [List.length_map, List.length_cons]
            have : rowC (⟨k, ari, dst, a, b, val, wide, args⟩ : Cd).op = rowC (k : Int) := rfl
            rw [this] at h9
            omega
          have Hmem := Lib.hid (List.mem_of_getElem? hf)
          obtain ⟨W1, hW1⟩ : ∃ W1, wr.iterAt it (strL l) (j + 1) = W1 := ⟨_, rfl⟩
          have HBI : Hid (BI w p it (kRow k ari dst a b val wide (.slice A n c)) l (j + 1) W1) := Lib.hid (by rw [← hW1]; exact Hen.out.bi.next)
          have HSL : Hid (Sl W1 base 5 v ((headC ⟨k, ari, dst, a, b, val, wide, args⟩ :: ((rowC (k : Int)).take j).flatMap (encF ⟨k, ari, dst, a, b, val, wide, args⟩)).map bv)) := Lib.hid (by rw [← hW1]; exact Hen.out.sl.iter Hen.out.bi.iter)
          have hsz : base ≤ W1.heap.size := by rw [← hW1, Lib.iterAt_size]; exact Hen.out.sz
          rw [hW1] at hnx
          clear hW1 hf Hen
          obtain ⟨Y, hY⟩ : ∃ Y, (headC ⟨k, ari, dst, a, b, val, wide, args⟩ :: ((rowC (k : Int)).take j).flatMap (encF ⟨k, ari, dst, a, b, val, wide, args⟩)).map bv = Y := ⟨_, rfl⟩
          rw [hY] at h5 h8 HSL
          clear hY
          obtain ⟨q0, q1, q2, q3, q4, q5, q6, q7⟩ := kRow_cells HBI.out.row
          by_cases hfn : fdN f = 108
          · obtain rfl : f = .n := by cases f <;> first | rfl | (simp [fdN] at hfn)
            have HP : Hid (Calls Tryd.prog 16 #[v, .slice A n c] W1 fun e w' => ∃ v', e = .returned v' ∧ Sl w' base 5 v' (Y ++ (leB 1 (n : Int) ++ args.flatMap (leB 1)).map bv) ∧ Below base W1 w') := Lib.hid (by
              refine putArgs_any v Y base A args n c W1 HSL.out hsz (by omega) Hn.out hc (Hr.out.below HBI.out.bel) h1 ?_
              rintro ad rfl hne
              obtain ⟨ad', e, hc0⟩ := Hr.out 0 (iz (args.head hne)) (by cases args with | nil => exact absurd rfl hne | cons y ys => rfl)
              injection e with e
              subst e
              have := World.block_lt_of_cell? w _ hc0
              rw [block_add] at this
              exact Nat.lt_of_lt_of_le this Hlt.out.2.2)
            rw [show fdN .n = 108 from rfl] at hnx
            have h6 : Hid (encF ⟨k, ari, dst, a, b, val, wide, args⟩ .n = leB 1 (n : Int) ++ args.flatMap (leB 1)) := Lib.hid (by
              show leB 1 (args.length : Int) ++ _ = _
              rw [Hn.out])
            rw [h6.out] at h5
            clear hfn h6
            go_wp2_with fail
            refine HP.out.mono ?_
            rintro e w5 ⟨v', rfl, hs5, hb5⟩
            have HE5 : Hid (EnR w p it base (kRow k ari dst a b val wide (.slice A n c)) l ⟨k, ari, dst, a, b, val, wide, args⟩ (rowC (k : Int)) v' (j + 1) w5) := Lib.hid ⟨HBI.out.lowB hb5 Hlt.out.1 Hlt.out.2.1 Hlt.out.2.2, by rw [h5.out]; exact hs5, Nat.le_trans hsz hb5.size, Hlt.out⟩
            clear hs5 hb5 HP q0 q1 q2 q3 q4 q5 q6 q7
            go_wp2_with fail
            go_roundw
            case rel => exact ⟨j + 1, _, by omega, rfl, HE5.out⟩
            case measure => rw [it_pos HE5.out.bi.iter, Hpos.out]; omega
          · have hne : ((fdN f : Int) == 108) = false := by simp; omega
            have h6 := enc_fv k ari dst a b val wide args hk hk1 f Hmem.out hfn
            have h7 := wd_most k hk wide (fdN f)
            have qf := fld_cell k ari dst a b val wide args _ HBI.out.row (fdN f)
            obtain ⟨y, hy⟩ : ∃ y : Nat, wdN k wide (fdN f) = y := ⟨(wdN k wide (fdN f)).toNat, by omega⟩
            have HN := Lib.hid (number_any p (fdN f))
            have HW := Lib.hid (fun V (hb : Below W1.heap.size W1 V) => width_any k ari dst a b val wide (.slice A n c) (fdN f) V (HT.out.below (below_next HBI.out.bel hb)) hk Hj.out)
            unfold kRow at HW
            rw [hy] at h6 h7 HW
            rw [Int.toNat_natCast] at h6
            obtain ⟨fv, hfv⟩ : ∃ fv, fvN ⟨k, ari, dst, a, b, val, wide, args⟩ (fdN f) = fv := ⟨_, rfl⟩
            rw [hfv] at h6 qf
            rw [h6] at h5
            have HP := Lib.hid (fun V (hb : Below W1.heap.size W1 V) => put_any v Y base y fv V (HSL.out.below hb) (Nat.le_trans hsz hb.size) (by omega) (by omega))
            obtain ⟨g, hg⟩ : ∃ g, fdN f = g := ⟨_, rfl⟩
            obtain ⟨d, hd⟩ : ∃ d, fldN g = d := ⟨_, rfl⟩
            rw [hg] at hne hnx HN HW qf
            rw [hd] at HN qf
            have HBd : Hid (Below W1.heap.size W1 W1.drew) := Lib.hid (bel_q (Below.refl _ _) 1)
            clear hg hd hfv hy h6 h7 hfn Hmem
            go_upto_region 12 with fail
            go_region_with (first
              | (go_at_call 18; (with_reducible refine (HN.out _).mono ?_); (rintro e w' ⟨rfl, rfl⟩))
              | (go_at_call 19; (with_reducible refine (HW.out _ HBd.out).mono ?_); (rintro e w6 ⟨rfl, hb6⟩); (have qf6 := hold hb6 qf); (have HB6 : Hid (Below W1.heap.size W1 w6) := Lib.hid (below_next HBd.out hb6)))
              | (go_at_call 17; (with_reducible refine (HP.out _ HB6.out).mono ?_); (rintro e w7 ⟨v', rfl, hs7, hb7⟩); (have HS7 := Lib.hid hs7); (have HB7 := Lib.hid hb7)))
            all_goals
              have HE5 : Hid (EnR w p it base (kRow k ari dst a b val wide (.slice A n c)) l ⟨k, ari, dst, a, b, val, wide, args⟩ (rowC (k : Int)) v' (j + 1) w7) := Lib.hid ⟨(HBI.out.low HB6.out).lowB HB7.out Hlt.out.1 Hlt.out.2.1 Hlt.out.2.2, by rw [h5.out]; exact HS7.out, Nat.le_trans (Nat.le_trans hsz HB6.out.size) HB7.out.size, Hlt.out⟩
              clear hs7 hb7 HS7 HB7 HB6 hb6 qf6 HP HW HN
              dsimp only [Exit.then, Exit.inBlock]
              go_wp2_with fail
              refine ⟨?_, by rw [it_pos HE5.out.bi.iter, Hpos.out]; omega⟩
              (repeat apply Exists.intro)
              refine ⟨?_, rfl⟩
              exact ⟨j + 1, _, by omega, rfl, HE5.out⟩
        · have hend : ∀ ty, (Instr.next (.pointer (some ⟨it, 0, none⟩)) true ty).run Tryd.prog wr = _ := fun ty => it_end wr it j l Hen.out.bi.iter hkl ty
          have e1 : (rowC (k : Int)).take j = rowC (k : Int) := List.take_of_length_le (by rw [← Hll.out]; omega)
          have HX : Hid (RdS wr v ((encC ⟨k, ari, dst, a, b, val, wide, args⟩).map bv) (encC ⟨k, ari, dst, a, b, val, wide, args⟩).length) := Lib.hid (by
            have := Hen.out.sl
            rw [e1] at this
            obtain ⟨A1, c1, h2, h3, h4⟩ := this.bytes rfl
            exact ⟨A1, c1, h2, h4, h3⟩)
          clear e1
          go_wp2_with fail
          go_ret2
          refine ⟨_, by rw [HE.out]; rfl, ?_, Hen.out.bi.bel⟩
          rw [HL.out]
          exact HX.out
  · have HL : Hid (encO ⟨op, ari, dst, a, b, val, wide, args⟩ = []) := Lib.hid (by
      unfold encO
      rw [HE.out, if_neg h0])
    have hne : ((E : Int) != 0) = true := by simp; omega
    have H0 := Lib.hid h0; clear h0
    go_wp2_with fail
    go_ret2
    refine ⟨.slice none 0 0, by rw [HE.out]; rfl, ?_, Hb2.out⟩
    rw [HL.out]
    exact ⟨none, 0, rfl, Nat.le_refl _, Rd.nil⟩
end Go.Proofs.YtebmmdafmgphdaaDoor
