/-
  The walk of machine.Decode. Condition: the bytes can be read; the table reads as the program's text lays it.
-/
import Derived.Test.YtebmmdafmgphdaaDoorMacG
import Derived.BigRegion
namespace Go.Proofs.YtebmmdafmgphdaaDoor
open Go.RowKit

def zRow : Array Value := kRow 0 0 0 0 0 0 false (.slice none 0 0)
theorem dec_err {w w' : World} {er : Nat} (hb : Below w.heap.size w w') : DecP zeroC 0 er w (.returned (.tuple #[.agg zRow, .int .i64 0, .int .i64 (er : Int)])) w' :=
  ⟨.slice none 0 0, rfl, ⟨none, 0, rfl, Nat.le_refl _, Rd.nil⟩, hb⟩
set_option maxRecDepth 100000 in
set_option maxHeartbeats 2000000 in
theorem mdecode_any (l : List Nat) (A : Option Addr) (n c : Nat) (at_ : Int) (y : Cd) (k er : Nat) (w : World) (hT : RowsT w) (hn : l.length = n) (hc : n ≤ c) (hr : Rd w A (l.map bv)) (hl : ∀ z ∈ l, z < 256) (h1 : n ≤ 1000000) (hd : decAt l at_ = (y, k, er)) :
    Calls Tryd.prog 11 #[.slice A n c, .int .i64 at_] w (DecP y k er w) := by
  have HT := Lib.hid hT; clear hT
  have Hr := Lib.hid hr; clear hr
  have Hl := Lib.hid hl; clear hl
  have Hd := Lib.hid hd; clear hd
  have Hn := Lib.hid hn; clear hn
  go_enter Tryd.func11, Tryd.ntmps11
  go_upto_region 1 with fail
  obtain ⟨w1, hw1⟩ : ∃ w1, w.alloc (.cells zRow 26) = w1 := ⟨_, rfl⟩
  have hres1 : w1.heap[w.heap.size]? = some (.cells zRow 26 (0, 0)) := by rw [← hw1]; exact heap_alloc_new w _
  have hb1 : Below w.heap.size w w1 := by rw [← hw1]; exact (Below.refl _ _).alloc (Nat.le_refl _) _
  unfold zRow kRow at hw1
  rw [hw1]
  obtain ⟨r, hr⟩ : ∃ r, w.heap.size = r := ⟨_, rfl⟩
  have hrw : w.heap.size ≤ r := by omega
  rw [hr] at hres1 ⊢
  have hr1 : r < w1.heap.size := (Array.getElem?_eq_some_iff.1 hres1).1
  have Hres1 := Lib.hid hres1
  have Hb1 := Lib.hid hb1
  clear hw1 hres1 hb1 hr
  by_cases h0 : at_ < 0
  · have hE : y = zeroC ∧ k = 0 ∧ er = 1 := by
      have := Hd.out
      unfold decAt at this
      rw [if_pos h0] at this
      simp only [Prod.mk.injEq] at this
      exact ⟨this.1.symm, this.2.1.symm, this.2.2.symm⟩
    obtain ⟨rfl, rfl, rfl⟩ := hE
    go_wp2_with (with_reducible refine pause_cd ?_)
    refine Pause.of (store_all _ rfl _ _ _ rfl r zRow rfl (by rfl) _ _ Hres1.out sizeC rfl (by simp [zRow, kRow, Value.oneCell']) ?_)
    intro wz hrowz hgz
    obtain ⟨j0, j1, j2, j3, j4, j5, j6, j7⟩ := kRow_cells hrowz
    have HE := Lib.hid (dec_err (er := 1) (Below.trans Hb1.out (grown_any hgz (fun k hk => by injection hk with hk; omega) (Below.size Hb1.out))))
    clear hrowz hgz
    go_wp2_with fail
    refine bodyPost_ret ?_ rfl HE.out
    simp [results, Tryd.results11, go_sem, j0, j1, j2, j3, j4, j5, j6, j7, zRow, kRow]
  · obtain ⟨a, rfl⟩ : ∃ a : Nat, at_ = a := ⟨at_.toNat, by omega⟩
    clear h0
    by_cases h0 : n ≤ a
    · have hE : y = zeroC ∧ k = 0 ∧ er = 2 := by
        have := Hd.out
        unfold decAt at this
        rw [if_neg (by omega), Int.toNat_natCast, List.drop_eq_nil_of_le (by rw [Hn.out]; exact h0)] at this
        simp only [decC, Prod.mk.injEq] at this
        exact ⟨this.1.symm, this.2.1.symm, this.2.2.symm⟩
      obtain ⟨rfl, rfl, rfl⟩ := hE
      go_wp2_with (with_reducible refine pause_cd ?_)
      refine Pause.of (store_all _ rfl _ _ _ rfl r zRow rfl (by rfl) _ _ Hres1.out sizeC rfl (by simp [zRow, kRow, Value.oneCell']) ?_)
      intro wz hrowz hgz
      obtain ⟨j0, j1, j2, j3, j4, j5, j6, j7⟩ := kRow_cells hrowz
      have HE := Lib.hid (dec_err (er := 2) (Below.trans Hb1.out (grown_any hgz (fun k hk => by injection hk with hk; omega) (Below.size Hb1.out))))
      clear hrowz hgz
      go_wp2_with fail
      refine bodyPost_ret ?_ rfl HE.out
      simp [results, Tryd.results11, go_sem, j0, j1, j2, j3, j4, j5, j6, j7, zRow, kRow]
    · have han : a < n := by omega
      clear h0
      have hal : a < l.length := by rw [Hn.out]; exact han
      obtain ⟨ad, rfl, hc0⟩ := Hr.out.at_ (k := a) (by simpa using hal)
      simp only [List.getElem_map] at hc0
      have hh := Hl.out _ (List.getElem_mem hal)
      have hdr : l.drop a = l[a] :: l.drop (a + 1) := List.drop_eq_getElem_cons hal
      have hd2 : decC (l.drop a) = (y, k, er) := by
        have := Hd.out
        unfold decAt at this
        rwa [if_neg (by omega), Int.toNat_natCast] at this
      rw [hdr] at hd2
      have hc1 := hold Hb1.out hc0
      generalize l[a] = h at *
      unfold bv at hc1
      have Hd2 := Lib.hid hd2
      clear hd2 hdr hc0 Hd
      obtain ⟨o, ho⟩ : ∃ o, h % 128 = o := ⟨_, rfl⟩
      obtain ⟨wd, hwd⟩ : ∃ wd, decide (128 ≤ h) = wd := ⟨_, rfl⟩
      have e1 : (h : Int) % 128 = (o : Int) := by omega
      have e2 : decide ((128 : Int) ≤ (h : Int)) = wd := by rw [← hwd]; congr 1; simp; omega
      have ho1 : o < 128 := by omega
      have hblk : (ad.add a).block < w1.heap.size := World.block_lt_of_cell? _ _ hc1
      have hc2 : (w1.alloc (.cells #[.int .i64 0, .int .i64 0, .int .i64 0, .int .i64 0, .int .i64 0, .int .i64 0, .bool false, .slice none 0 0] 26)).cell? (ad.add a) = some (.int .u8 (h : Int)) := hold ((Below.refl _ _).alloc (Nat.le_refl _) _) hc1
      go_upto_region 5 with fail
      go_cut [7] from 22 (fun v7 wx => ∃ p, v7 = .pointer (some ⟨p, 0, none⟩) ∧ wx.heap[p]? = some (.cells (kRow o 0 0 0 0 0 wd (.slice none 0 0)) 26 (0, 0)) ∧ Below w1.heap.size w1 wx ∧ w1.heap.size ≤ p)
      case first =>
        go_region
        all_goals
          rename_i hJ hK
          dsimp only [Exit.then]
          refine hK _ _ (Met.intro (hJ _ _ ?_))
          (repeat apply Exists.intro)
          refine ⟨?rel, rfl⟩
          case rel => exact ⟨_, rfl, heap_alloc_new w1 _, bel_q ((Below.refl _ _).alloc (Nat.le_refl _) _) 1, Nat.le_refl _⟩
      case rest =>
        obtain ⟨w2, rfl⟩ : ∃ w2, w2 = wc := ⟨_, rfl⟩
        obtain ⟨p, rfl, hrowp, hbc, hp1⟩ := hcut
        have Hrowp := Lib.hid hrowp
        have Hbc := Lib.hid hbc
        have Hbw := Lib.hid (below_next Hb1.out hbc)
        have Hresc := Lib.hid ((hbc.block r hr1).trans Hres1.out)
        obtain ⟨q0, q1, q2, q3, q4, q5, q6, q7⟩ := kRow_cells hrowp
        have HO := Lib.hid (isOp_any (o : Int) wd)
        have hplt : p < w2.heap.size := (Array.getElem?_eq_some_iff.1 hrowp).1
        clear hc1 hc2 hblk e1 e2 hrowp hbc
        go_wp2_with fail
        refine (HO.out _).mono ?_
        rintro e w' ⟨rfl, rfl⟩
        cases hop : opB (o : Int) wd with
        | false =>
          have hE : y = zeroC ∧ k = 0 ∧ er = 17 := by
            have := Hd2.out
            simp only [decC] at this
            rw [ho, if_pos (by
              rw [opB_is, Bool.and_eq_false_iff] at hop
              rcases hop with h2 | h2
              · exact .inl (row_none h2)
              · right
                simp only [Bool.not_eq_false', Bool.and_eq_true, Bool.not_eq_true'] at h2
                exact ⟨by rw [← hwd] at h2; simpa using h2.1, h2.2⟩)] at this
            simp only [Prod.mk.injEq] at this
            exact ⟨this.1.symm, this.2.1.symm, this.2.2.symm⟩
          obtain ⟨rfl, rfl, rfl⟩ := hE
          clear hop HO
          go_wp2_with (with_reducible refine pause_cd ?_)
          refine Pause.of (store_all _ rfl _ _ _ rfl r zRow rfl (by rfl) _ _ Hresc.out sizeC rfl (by simp [zRow, kRow, Value.oneCell']) ?_)
          intro wz hrowz hgz
          obtain ⟨j0, j1, j2, j3, j4, j5, j6, j7⟩ := kRow_cells hrowz
          have HE := Lib.hid (dec_err (er := 17) (Below.trans Hbw.out (grown_any hgz (fun k hk => by injection hk with hk; omega) (Below.size Hbw.out))))
          clear hrowz hgz
          go_wp2_with fail
          refine bodyPost_ret ?_ rfl HE.out
          simp [results, Tryd.results11, go_sem, j0, j1, j2, j3, j4, j5, j6, j7, zRow, kRow]
        | true =>
          have ho19 : 1 ≤ o ∧ o < 19 := by
            rw [opB_is] at hop
            simp only [Bool.and_eq_true, decide_eq_true_eq] at hop
            omega
          have hwi : wd = true → isJ (o : Int) = true := by
            rintro rfl
            exact hop
          clear hop HO
          have hdec : decC (h :: l.drop (a + 1)) = match decFs (rowC (o : Int)) { zeroC with op := (o : Int), wide := wd } (l.drop (a + 1)) with
              | none => (zeroC, 0, 2)
              | some (y, q) => if chkC y = 0 then (y, 1 + (l.drop (a + 1)).length - q.length, 0) else (zeroC, 0, chkC y) := by
            simp only [decC]
            rw [ho, hwd, if_neg]
            · rfl
            · rintro (h2 | ⟨h2, h3⟩)
              · exact row_some ⟨o, ho19.2⟩ ho19.1 h2
              · rw [hwi (by rw [← hwd]; exact decide_eq_true h2)] at h3
                cases h3
          rw [hdec] at Hd2
          have Hwi := Lib.hid hwi
          clear hdec hwi ho hwd
          obtain ⟨A', hA'⟩ : ∃ A', (if c = a + 1 then some ad else (some ad).map (·.add (a + 1))) = A' := ⟨_, rfl⟩
          have hrA : Rd w A' ((l.drop (a + 1)).map bv) := by
            have := Hr.out.cut (k := a + 1) (c := c) (by rw [List.length_map, Hn.out]; exact hc)
            rw [hA'] at this
            rwa [← List.map_drop] at this
          have HrA := Lib.hid hrA
          clear hrA
          go_upto_region 8 with fail
          go_cut [8] from 39 (fun v8 wx => v8 = .pointer (some ⟨w2.heap.size, 0, none⟩) ∧ Rdr w2.heap.size A' (n - (a + 1)) (c - (a + 1)) false wx ∧ Below w2.heap.size w2 wx)
          case first =>
            by_cases hca : c = a + 1
            · rw [if_pos hca] at hA'
              go_wp2_with fail
              go_meet
              case rel =>
                refine ⟨rfl, ?_, (Below.refl _ _).alloc (Nat.le_refl _) _⟩
                rw [show c - (a + 1) = 0 by omega]
                exact heap_alloc_new w2 _
            · rw [if_neg hca] at hA'
              go_wp2_with fail
              go_meet
              case rel =>
                refine ⟨rfl, ?_, (Below.refl _ _).alloc (Nat.le_refl _) _⟩
                have e : A' = some ⟨ad.block, ad.off + (a + 1), none⟩ := by
                  rw [← hA']
                  simp [Addr.add]
                rw [e]
                exact heap_alloc_new w2 _
          case rest =>
            obtain ⟨rfl, hrdr, hb3⟩ := hcut
            obtain ⟨q, hq⟩ : ∃ q, w2.heap.size = q := ⟨_, rfl⟩
            have hbw3 := below_next Hbw.out hb3
            have hb13 := below_next Hbc.out hb3
            have hrow3 := (hb3.block p hplt).trans Hrowp.out
            obtain ⟨it, hit⟩ : ∃ it, wc.heap.size = it := ⟨_, rfl⟩
            have hqi : q < it := by
              rw [← hit, ← hq]
              exact (Array.getElem?_eq_some_iff.1 hrdr).1
            have hb34 : Below wc.heap.size wc (wc.iter (strL (lets o)) 0) := (Below.refl _ _).alloc (Nat.le_refl _) _
            have hsz4 : (wc.iter (strL (lets o)) 0).heap.size = it + 1 := by rw [← hit]; simp [World.iter]
            have hw12 := Hbc.out.size
            have hD0 : DcR w1 p q it (it + 1) o wd (l.drop (a + 1)) 0 { zeroC with op := (o : Int), wide := wd } (.slice none 0 0) 0 [] A' (l.drop (a + 1)) (n - (a + 1)) (c - (a + 1)) false (wc.iter (strL (lets o)) 0) := by
              rw [hq] at hplt hrdr hw12
              refine ⟨⟨?_, rfl, World.ownsRow_nil _ _ _ _, ?_, HrA.out.below Hb1.out, fun x hx => Hl.out x (List.mem_of_mem_drop hx), ⟨by rw [List.length_drop, Hn.out], by omega, rfl⟩, below_next hb13 hb34, ⟨?_, by omega, by omega, by omega⟩, hp1, hw12, by omega, by omega, by omega, by omega⟩, by omega, rfl, rfl, ?_, fun _ => rfl, fun h => by cases h⟩
              · exact (hb34.block p (by omega)).trans hrow3
              · exact (hb34.block q (by omega)).trans hrdr
              · rw [← hit]
                exact World.iter_heap wc _ 0
              · simp
            have HD0 := Lib.hid hD0
            have HT3 := (HT.out.below hbw3).s o ho19.2
            obtain ⟨q0, q1, q2, q3, q4, q5, q6, q7⟩ := kRow_cells hrow3
            have hll := lets_len o
            have hlsm := lets_small o
            have hlat : ∀ j f, (rowC (o : Int))[j]? = some f → (lets o)[j]? = some (fdN f) := fun j f h => lets_at ho19.2 h
            obtain ⟨ls, hls⟩ : ∃ ls, lets o = ls := ⟨_, rfl⟩
            have Hls := Lib.hid hls
            rw [hls] at HT3 hll hlsm hlat hsz4
            have Hll := Lib.hid hll
            have Hlsm := Lib.hid hlsm
            have Hlat := Lib.hid hlat
            have hres3 := (hb13.block r hr1)
            clear hll hlsm hlat q1 q2 q3 q4 q5 q6 q7 hrow3 hrdr hb3 hbw3 hb13 hb34 hD0 hA' HrA Hrowp hres3
            rw [hq]
            go_wp2_with fail
            rw [hls] at HD0
            generalize wc.iter (strL ls) 0 = w4 at HD0
            obtain ⟨base, hbase⟩ : ∃ base, it + 1 = base := ⟨_, rfl⟩
            rw [hbase] at HD0
            clear hsz4 hbase HT3 q0
            go_loopw [10] (fun _ wr => ∃ j, j ≤ ls.length ∧ ∃ y v m xs A l' rn rc sh, DcR w1 p q it base o wd (l.drop (a + 1)) j y v m xs A l' rn rc sh wr) (fun _ wr => ls.length - wr.iterPos it)
            case atStart => exact ⟨0, Nat.zero_le _, _, _, _, _, _, _, _, _, _, HD0.out⟩
            case round =>
              obtain ⟨j, hj, yj, vj, mj, xj, Aj, lj, rnj, rcj, shj, hdj⟩ := hrel
              have hitj := hdj.fs.it.1
              rw [Hls.out] at hitj
              have Hpos := Lib.hid (it_pos hitj)
              have HDj := Lib.hid hdj
              clear HD0 hdj
              by_cases hjl : j < ls.length
              · obtain ⟨f, hf⟩ : ∃ f, (rowC (o : Int))[j]? = some f := ⟨_, List.getElem?_eq_getElem (by rw [← Hll.out]; exact hjl)⟩
                have hnx : ∀ ty, (Instr.next (.pointer (some ⟨it, 0, none⟩)) true ty).run Tryd.prog wr = _ := fun ty => it_next wr it j (fdN f) ls hitj (Hlat.out j f hf) Hlsm.out ty
                have hfs := HDj.out.next
                rw [Hls.out] at hfs
                obtain ⟨W1, hW1⟩ : ∃ W1, wr.iterAt it (strL ls) (j + 1) = W1 := ⟨_, rfl⟩
                rw [hW1] at hnx hfs
                have hm255 : mj ≤ 255 := by
                  have := HDj.out.few
                  split at this <;> omega
                have HFd : Hid (Calls Tryd.prog 21 #[.pointer (some ⟨q, 0, none⟩), .pointer (some ⟨p, 0, none⟩), .int .i32 (fdN f : Int)] W1 (FldP w1 p q base it (.stringIter (strL ls) (j + 1)) yj lj mj shj f)) := Lib.hid (by
                  by_cases hfn : fdN f = 108
                  · obtain rfl : f = .n := by cases f <;> first | rfl | (simp [fdN] at hfn)
                    exact fieldL_any w1 p q base it _ yj vj mj xj Aj lj rnj rcj shj W1 hfs (by omega)
                  · exact fieldN_any w1 p q base it _ o yj vj mj xj Aj lj rnj rcj shj W1 hfs (HT.out.below Hb1.out) HDj.out.op ho19.2 ho19.1 (by rw [HDj.out.wide]; exact Hwi.out) f (List.mem_of_getElem? hf) hfn)
                have Hf := Lib.hid hf
                clear hW1 hfs hf hitj
                go_wp2_with fail
                refine HFd.out.mono ?_
                intro e w5 hfp
                rw [← Hls.out] at hfp
                obtain ⟨rfl, y5, v5, m5, xs5, A5, l5, rn5, rc5, sh5, hd5⟩ := HDj.out.field ho19.2 f Hf.out hfp
                have hit5 := hd5.fs.it.1
                rw [Hls.out] at hit5
                have HD5 := Lib.hid hd5
                clear hfp hd5
                go_wp2_with fail
                go_roundw
                case rel => exact ⟨j + 1, by omega, _, _, _, _, _, _, _, _, _, HD5.out⟩
                case measure => rw [it_pos hit5, Hpos.out]; omega
              · have hend : ∀ ty, (Instr.next (.pointer (some ⟨it, 0, none⟩)) true ty).run Tryd.prog wr = _ := fun ty => it_end wr it j ls hitj hjl ty
                have e1 : (rowC (o : Int)).take j = rowC (o : Int) := List.take_of_length_le (by rw [← Hll.out]; omega)
                have hg := HDj.out.good
                have hbd := HDj.out.bad
                rw [e1] at hg hbd
                have Hg := Lib.hid hg
                have Hbd := Lib.hid hbd
                have Hresr := Lib.hid ((HDj.out.fs.bel.block r hr1).trans Hres1.out)
                have Hbwr := Lib.hid (below_next Hb1.out HDj.out.fs.bel)
                have d1 : wr.cell? ⟨q, 1, none⟩ = some (.bool shj) := (cell_of_row _ _ _ _ _ _ HDj.out.fs.rdr).trans rfl
                clear e1 hg hbd hitj Hlat Hlsm Hll Hls
                cases shj with
                | true =>
                  have hE : y = zeroC ∧ k = 0 ∧ er = 2 := by
                    have := Hd2.out
                    rw [Hbd.out rfl] at this
                    simp only [Prod.mk.injEq] at this
                    exact ⟨this.1.symm, this.2.1.symm, this.2.2.symm⟩
                  obtain ⟨rfl, rfl, rfl⟩ := hE
                  go_wp2_with (with_reducible refine pause_cd ?_)
                  refine Pause.of (store_all _ rfl _ _ _ rfl r zRow rfl (by rfl) _ _ Hresr.out sizeC rfl (by simp [zRow, kRow, Value.oneCell']) ?_)
                  intro wz hrowz hgz
                  obtain ⟨j0, j1, j2, j3, j4, j5, j6, j7⟩ := kRow_cells hrowz
                  have HE := Lib.hid (dec_err (er := 2) (Below.trans Hbwr.out (grown_any hgz (fun k hk => by injection hk with hk; omega) (Below.size Hbwr.out))))
                  clear hrowz hgz
                  go_wp2_with fail
                  refine bodyPost_ret ?_ rfl HE.out
                  simp [results, Tryd.results11, go_sem, j0, j1, j2, j3, j4, j5, j6, j7, zRow, kRow]
                | false =>
                  have hgd := Hg.out rfl
                  have hvj : i64C yj.val := decFs_i64 _ _ _ _ _ (fun x hx => Hl.out x (List.mem_of_mem_drop hx)) (show i64C 0 from ⟨by decide, by decide⟩) hgd
                  have hshort := decFs_short _ _ _ _ _ hgd
                  rw [List.length_drop, Hn.out, HDj.out.fs.len.1] at hshort
                  obtain ⟨Av, cv, rfl, hcv, hrv⟩ := own_form HDj.out.fs.own
                  have HAv := Lib.hid (own_above HDj.out.fs.own)
                  have Hrb := Lib.hid HDj.out.fs.lo
                  have hargs := HDj.out.fs.args
                  have hrv2 : Rd wr Av (yj.args.map iz) := by
                    rw [hargs, List.map_map]
                    exact hrv
                  have hmj : mj ≤ 255 := by
                    have := HDj.out.few
                    split at this <;> omega
                  have hlen : yj.args.length = mj := by rw [hargs, List.length_map, HDj.out.fs.len.2.2]
                  have HCk := Lib.hid (mcheck_any yj Av mj cv wr (HT.out.below Hbwr.out) hlen hcv hrv2 (by omega) hvj)
                  have hE2 := Hd2.out
                  rw [hgd] at hE2
                  obtain ⟨E, hE⟩ : ∃ E, chkC yj = E := ⟨_, rfl⟩
                  simp only [hE] at hE2
                  rw [hE] at HCk
                  have HE2 := Lib.hid hE2
                  have hrowr : wr.heap[p]? = some (.cells (kRow yj.op yj.ari yj.dst yj.a yj.b yj.val yj.wide (.slice Av mj cv)) 26 (0, 0)) := HDj.out.fs.row
                  obtain ⟨q0, q1, q2, q3, q4, q5, q6, q7⟩ := kRow_cells hrowr
                  have Hrowr := Lib.hid hrowr
                  have HrV := Lib.hid (show RdS wr (.slice Av mj cv) (yj.args.map iz) yj.args.length from ⟨Av, cv, by rw [hlen], by rw [hlen]; exact hcv, hrv2⟩)
                  dsimp only [cdv] at HCk
                  clear hE hE2 hgd hvj hrv hrv2 hargs hlen hrowr
                  go_wp2_with fail
                  refine HCk.out.mono ?_
                  rintro e w6 ⟨rfl, hb6⟩
                  have Hres6 := Lib.hid ((hb6.block r (Array.getElem?_eq_some_iff.1 Hresr.out).1).trans Hresr.out)
                  have Hbw6 := Lib.hid (below_next Hbwr.out hb6)
                  have Hrow6 := Lib.hid ((hb6.block p (Array.getElem?_eq_some_iff.1 Hrowr.out).1).trans Hrowr.out)
                  have HrV6 := Lib.hid (HrV.out.below hb6)
                  have e0 := hold hb6 ((cell_of_row _ _ 0 _ _ _ HDj.out.fs.rdr).trans rfl)
                  clear hb6 q0 q1 q2 q3 q4 q5 q6 q7 d1 HCk
                  obtain ⟨q0, q1, q2, q3, q4, q5, q6, q7⟩ := kRow_cells Hrow6.out
                  by_cases hE0 : E = 0
                  · subst hE0
                    have hE3 : yj = y ∧ k = n - a - rnj ∧ er = 0 := by
                      have := HE2.out
                      rw [if_pos rfl, List.length_drop, Hn.out, HDj.out.fs.len.1] at this
                      simp only [Prod.mk.injEq] at this
                      exact ⟨this.1, by omega, this.2.2.symm⟩
                    obtain ⟨rfl, rfl, rfl⟩ := hE3
                    obtain ⟨s0, s1, s2, s3, s4, s5, s6, s7⟩ := kRow_cells (show w6.heap[r]? = some (.cells (kRow 0 0 0 0 0 0 false (.slice none 0 0)) 26 (0, 0)) from Hres6.out)
                    have f0 := codes_frozen Hres6.out 0
                    have f1 := codes_frozen Hres6.out 1
                    have f2 := codes_frozen Hres6.out 2
                    have f3 := codes_frozen Hres6.out 3
                    have f4 := codes_frozen Hres6.out 4
                    have f5 := codes_frozen Hres6.out 5
                    have f6 := codes_frozen Hres6.out 6
                    have f7 := codes_frozen Hres6.out 7
                    clear HDj Hg Hbd Hd2 HE2
                    go_upto_region 18 with fail
                    go_region
                    have hset := set8 w6 r (.int .i64 yj.op) (.int .i64 yj.ari) (.int .i64 yj.dst) (.int .i64 yj.a) (.int .i64 yj.b) (.int .i64 yj.val) (.bool yj.wide) (.slice Av mj cv) Hres6.out
                    have hgz := set8_only w6 r (.int .i64 yj.op) (.int .i64 yj.ari) (.int .i64 yj.dst) (.int .i64 yj.a) (.int .i64 yj.b) (.int .i64 yj.val) (.bool yj.wide) (.slice Av mj cv)
                    obtain ⟨wz, hwz⟩ : ∃ wz, ((((((((w6.setCell ⟨r, 0, none⟩ (.int .i64 yj.op)).setCell ⟨r, 1, none⟩ (.int .i64 yj.ari)).setCell ⟨r, 2, none⟩ (.int .i64 yj.dst)).setCell ⟨r, 3, none⟩ (.int .i64 yj.a)).setCell ⟨r, 4, none⟩ (.int .i64 yj.b)).setCell ⟨r, 5, none⟩ (.int .i64 yj.val)).setCell ⟨r, 6, none⟩ (.bool yj.wide)).setCell ⟨r, 7, none⟩ (.slice Av mj cv)) = wz := ⟨_, rfl⟩
                    rw [hwz] at hset hgz ⊢
                    clear hwz
                    have hbz : Below w.heap.size w wz.drew := bel_q (Hbw6.out.trans (grown_any hgz (fun k hk => by injection hk with hk; omega) Hbw6.out.size)) 1
                    have hrz : RdS wz.drew (.slice Av mj cv) (yj.args.map iz) yj.args.length := by
                      obtain ⟨A2, c2, e2, h2, h3⟩ := HrV6.out
                      refine ⟨A2, c2, e2, h2, (rd_apart h3 hgz ?_).drew⟩
                      intro ad2 e3
                      injection e2 with e4 e5 e6
                      have := HAv.out ad2 (e4.trans e3)
                      have := Hrb.out
                      omega
                    obtain ⟨j0, j1, j2, j3, j4, j5, j6, j7⟩ := kRow_cells (show wz.drew.heap[r]? = some (.cells (kRow yj.op yj.ari yj.dst yj.a yj.b yj.val yj.wide (.slice Av mj cv)) 26 (0, 0)) from hset)
                    have HE : Hid (DecP yj (n - a - rnj) 0 w (.returned (.tuple #[cdv yj (.slice Av mj cv), .int .i64 ((n - a - rnj : Nat) : Int), .int .i64 0])) wz.drew) := Lib.hid ⟨_, rfl, hrz, hbz⟩
                    have hk : ((n - a - rnj : Nat) : Int) = (n : Int) - a - rnj := by omega
                    rw [hk] at HE
                    clear hset hbz hrz hgz s0 s1 s2 s3 s4 s5 s6 s7 f0 f1 f2 f3 f4 f5 f6 f7 q0 q1 q2 q3 q4 q5 q6 q7 e0
                    dsimp only [Exit.then]
                    go_wp2_with fail
                    refine bodyPost_ret ?_ rfl HE.out
                    simp [results, Tryd.results11, go_sem, j0, j1, j2, j3, j4, j5, j6, j7, cdv]
                  · have hE3 : y = zeroC ∧ k = 0 ∧ er = E := by
                      have := HE2.out
                      rw [if_neg hE0] at this
                      simp only [Prod.mk.injEq] at this
                      exact ⟨this.1.symm, this.2.1.symm, this.2.2.symm⟩
                    obtain ⟨rfl, rfl, rfl⟩ := hE3
                    have hne : ((er : Int) != 0) = true := by simp; omega
                    have HE0 := Lib.hid hE0
                    clear hE0
                    go_wp2_with (with_reducible refine pause_cd ?_)
                    refine Pause.of (store_all _ rfl _ _ _ rfl r zRow rfl (by rfl) _ _ Hres6.out sizeC rfl (by simp [zRow, kRow, Value.oneCell']) ?_)
                    intro wz hrowz hgz
                    obtain ⟨j0, j1, j2, j3, j4, j5, j6, j7⟩ := kRow_cells hrowz
                    have HE := Lib.hid (dec_err (er := er) (Below.trans Hbw6.out (grown_any hgz (fun k hk => by injection hk with hk; omega) (Below.size Hbw6.out))))
                    clear hrowz hgz
                    go_wp2_with fail
                    refine bodyPost_ret ?_ rfl HE.out
                    simp [results, Tryd.results11, go_sem, j0, j1, j2, j3, j4, j5, j6, j7, zRow, kRow]
end Go.Proofs.YtebmmdafmgphdaaDoor
