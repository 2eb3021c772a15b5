/-
  The walk of machine's reader of fields: numbers. Condition: the bytes can be read; the table reads as the program's text lays it.
-/
import Derived.Test.YtebmmdafmgphdaaDoorMacF
namespace Go.Proofs.YtebmmdafmgphdaaDoor
open Go.RowKit

theorem sg_shift (size y : Nat) (hs : size = 1 ∨ size = 4 ∨ size = 8) (hy : y < 256 ^ size) : wrap64 (wrap64 (y : Int) * 2 ^ (64 - 8 * size)) / 2 ^ (64 - 8 * size) = sgnC size y := by
  unfold sgnC wrap64
  rcases hs with rfl | rfl | rfl
  · have e1 : (256 : Nat) ^ 1 = 256 := by decide
    have e2 : (256 : Int) ^ 1 = 256 := by decide
    have e3 : (2 : Int) ^ (64 - 8 * 1) = 72057594037927936 := by decide
    rw [e1] at *
    rw [e2, e3]
    split <;> omega
  · have e1 : (256 : Nat) ^ 4 = 4294967296 := by decide
    have e2 : (256 : Int) ^ 4 = 4294967296 := by decide
    have e3 : (2 : Int) ^ (64 - 8 * 4) = 4294967296 := by decide
    rw [e1] at *
    rw [e2, e3]
    split <;> omega
  · have e1 : (256 : Nat) ^ 8 = 18446744073709551616 := by decide
    have e2 : (256 : Int) ^ 8 = 18446744073709551616 := by decide
    have e3 : (2 : Int) ^ (64 - 8 * 8) = 1 := by decide
    rw [e1] at *
    rw [e2, e3]
    split <;> omega
def FldP (w0 : World) (p q base ib : Nat) (io : Obj) (y : Cd) (l : List Nat) (m : Nat) (sh : Bool) (f : Fd) (e : Ending) (w' : World) : Prop :=
  ∃ y' v' m' xs' A' l' rn' rc' sh', e = .returned (.tuple #[]) ∧ FS w0 p q base ib io y' v' m' xs' A' l' rn' rc' sh' w' ∧ y'.op = y.op ∧ y'.wide = y.wide ∧ (sh = true → sh' = true) ∧
    (sh = false → (decF y l f = some (y', l') ∧ sh' = false) ∨ (decF y l f = none ∧ sh' = true)) ∧ m' ≤ m + 255 ∧ (f ≠ .n → m' = m)
set_option maxRecDepth 10000 in
theorem fieldN_any (w0 : World) (p q base ib : Nat) (io : Obj) (n : Nat) (y : Cd) (v : Value) (m : Nat) (xs : List Nat) (A : Option Addr) (l : List Nat) (rn rc : Nat) (sh : Bool) (w : World) (h : FS w0 p q base ib io y v m xs A l rn rc sh w) (hT : RowsT w0) (hop : y.op = n) (hn : n < 19) (h1 : 1 ≤ n)
    (hw : y.wide = true → isJ (n : Int) = true) (f : Fd) (hf : f ∈ rowC (n : Int)) (hfn : fdN f ≠ 108) :
    Calls Tryd.prog 21 #[.pointer (some ⟨q, 0, none⟩), .pointer (some ⟨p, 0, none⟩), .int .i32 (fdN f : Int)] w (FldP w0 p q base ib io y l m sh f) := by
  have HD := Lib.hid (decF_is n y l hn h1 hw f hf hfn)
  have HN := Lib.hid (number_any p (fdN f))
  have hne : ((fdN f : Int) == 108) = false := by simp; omega
  have hT1 := hT.below h.bel
  have Ht : Hid (∀ V, Below w.heap.size w V → V.cell? ⟨0, n * 3 + 2, none⟩ = some (.int .i64 (grtN n))) := Lib.hid (fun V hV => (hT1.below hV).t n hn)
  have HW : Hid (Calls Tryd.prog 19 #[.agg (cRow y v), .int .i32 (fdN f : Int)] w (NumP (wdN n y.wide (fdN f)) w)) := Lib.hid (by
    unfold cRow
    rw [hop]
    exact width_any n y.ari y.dst y.a y.b y.val y.wide v (fdN f) w hT1 hn hw)
  have hwm := wd_most n hn y.wide (fdN f)
  have hsz : fdN f = 118 → grtN n = -1 → wdN n y.wide (fdN f) = 1 ∨ wdN n y.wide (fdN f) = 4 ∨ wdN n y.wide (fdN f) = 8 := by
    intro e1 e2
    rw [e1]
    unfold wdN
    rw [if_pos rfl]
    split
    · exact .inr (.inl rfl)
    · have : ∀ m : Fin 19, grtN m.val = -1 → (sizeN m.val = 1 ∨ sizeN m.val = 4 ∨ sizeN m.val = 8) := by decide +kernel
      exact this ⟨n, hn⟩ e2
  have hsm : ¬ (fdN f = 118 ∧ grtN n = -1) → wdN n y.wide (fdN f) ≤ 4 := by
    intro e1
    unfold wdN
    split
    · rename_i hc
      split
      · decide
      · have : ∀ m : Fin 19, grtN m.val ≠ -1 → sizeN m.val ≤ 4 := by decide +kernel
        exact this ⟨n, hn⟩ (fun e => e1 ⟨hc, e⟩)
    · decide
  obtain ⟨size, hsize⟩ : ∃ size : Nat, wdN n y.wide (fdN f) = size := ⟨(wdN n y.wide (fdN f)).toNat, by omega⟩
  obtain ⟨c, hc⟩ : ∃ c, fdN f = c := ⟨_, rfl⟩
  rw [hc] at hne HN HD HW hsz hsm hsize hwm ⊢
  rw [hsize] at HD HW hsz hsm hwm
  rw [Int.toNat_natCast] at HD
  have HFv : Hid (∀ z : Nat, fvalC n y.wide c z = if c = 118 ∧ grtN n = -1 then sgnC size z else (z : Int)) := Lib.hid (fun z => by
    unfold fvalC
    by_cases hh : c = 118 ∧ grtN n = -1
    · rw [if_pos hh, if_pos hh]
      rw [hh.1] at hsize
      rw [hsize, Int.toNat_natCast]
    · rw [if_neg hh, if_neg hh])
  have HFS := Lib.hid h
  have HT := Lib.hid hT
  clear h hsize hc hf hfn hT hT1 hw
  unfold cRow kRow at HW
  rw [hop] at HW
  obtain ⟨q0, q1, q2, q3, q4, q5, q6, q7⟩ := kRow_cells (show w.heap[p]? = some (.cells (kRow y.op y.ari y.dst y.a y.b y.val y.wide v) 26 (0, 0)) from HFS.out.row)
  rw [hop] at q0
  go_enter Tryd.func21, Tryd.ntmps21
  go_wp2_with fail
  refine HW.out.mono ?_
  rintro e w1 ⟨rfl, hb1⟩
  have HF1 := Lib.hid (HFS.out.low hb1)
  have HB1 := Lib.hid hb1
  have HU := Lib.hid (unsigned_any q A l rn rc size sh w1 HF1.out.rdr HF1.out.len.1 HF1.out.len.2.1 (HF1.out.rd.below HF1.out.bel) HF1.out.byte (by omega))
  clear hb1 q0 q1 q2 q3 q4 q5 q6 q7 HW HFS
  go_wp2_with fail
  refine HU.out.mono ?_
  intro e w2 hu
  clear HU
  have hsh : ∃ (y2 : Nat), (e = .returned (.int .i64 (wrap64 (y2 : Int))) ∧ y2 < 256 ^ size ∧ ∃ A' l' rn' rc' sh', FS w0 p q base ib io y v m xs A' l' rn' rc' sh' w2 ∧ (sh = true → sh' = true) ∧ (if rn < size then sh' = true else sh' = sh ∧ l' = l.drop size ∧ y2 = leN (l.take size))) := by
    unfold UnP at hu
    by_cases hlt : rn < size
    · rw [if_pos hlt] at hu
      obtain ⟨rfl, rfl⟩ := hu
      refine ⟨0, by rw [show ((0 : Nat) : Int) = 0 from rfl, wrap64_in0], Nat.pow_pos (by decide), _, _, _, _, true, HF1.out.short, fun _ => rfl, ?_⟩
      rw [if_pos hlt]
    · rw [if_neg hlt] at hu
      obtain ⟨rfl, rfl⟩ := hu
      refine ⟨_, rfl, ?_, _, _, _, _, sh, HF1.out.moved size (by omega), id, ?_⟩
      · have := leN_lt (l.take size) (fun x hx => HF1.out.byte x (List.mem_of_mem_take hx))
        rwa [List.length_take, HF1.out.len.1, Nat.min_eq_left (by omega)] at this
      · rw [if_neg hlt]
        exact ⟨rfl, rfl, rfl⟩
  obtain ⟨y2, rfl, hy2, A', l', rn', rc', sh', hF2, hs1, hs2⟩ := hsh
  have HF2 := Lib.hid hF2
  have Hlen := Lib.hid HF1.out.len
  have HR : Hid (∀ z, (z : Int) = (if c = 118 ∧ grtN n = -1 then sgnC size y2 else (y2 : Int)) → FldP w0 p q base ib io y l m sh f (.returned (.tuple #[])) (w2.setCell ⟨p, fldN c, none⟩ (.int .i64 z))) := Lib.hid (by
    intro z hz
    have hk := setC_kept c z y
    refine ⟨_, _, _, _, _, _, _, _, _, rfl, HF2.out.setp c z, hk.1, hk.2.1, hs1, ?_, by omega, fun _ => rfl⟩
    intro hsf
    rw [HD.out, Hlen.out.1]
    by_cases hlt : rn < size
    · rw [if_pos hlt] at hs2 ⊢
      exact .inr ⟨rfl, hs2⟩
    · rw [if_neg hlt] at hs2 ⊢
      refine .inl ⟨?_, hs2.1.trans hsf⟩
      rw [HFv.out, hs2.2.1, hz, hs2.2.2])
  have q0 : w2.cell? ⟨p, 0, none⟩ = some (.int .i64 (n : Int)) := by
    rw [← hop]
    exact (kRow_cells (show w2.heap[p]? = some (.cells (kRow y.op y.ari y.dst y.a y.b y.val y.wide v) 26 (0, 0)) from hF2.row)).1
  have qf : ∃ u, w2.cell? ⟨p, fldN c, none⟩ = some (.int .i64 u) := ⟨_, fld_cell y.op y.ari y.dst y.a y.b y.val y.wide [] v hF2.row c⟩
  obtain ⟨u, qf⟩ := qf
  have ff := codes_frozen hF2.row (fldN c)
  have ht2 := (HT.out.below hF2.bel).t n hn
  clear hF2 hs1 hs2 HF1 HB1 Ht HF2 Hlen HD HFv hu
  by_cases hv : c = 118 ∧ grtN n = -1
  · obtain ⟨rfl, hg⟩ := hv
    rw [hg] at ht2
    have HR2 : Hid (FldP w0 p q base ib io y l m sh f (.returned (.tuple #[])) (w2.setCell ⟨p, fldN 118, none⟩ (.int .i64 (wrap64 (wrap64 (y2 : Int) * 2 ^ (64 - 8 * size)) / 2 ^ (64 - 8 * size))))) := Lib.hid (HR.out _ (by
      rw [if_pos ⟨rfl, hg⟩, sg_shift size y2 (by have := hsz rfl hg; omega) hy2]))
    have hs3 : size = 1 ∨ size = 4 ∨ size = 8 := by have := hsz rfl hg; omega
    clear hsz hsm HR hy2 hg
    generalize fldN 118 = d at *
    rcases hs3 with rfl | rfl | rfl
    · rw [show (2 : Int) ^ (64 - 8 * 1) = 72057594037927936 by decide] at HR2
      go_wp2_with fail
      refine (HN.out _).mono ?_
      rintro e w3 ⟨rfl, rfl⟩
      go_wp2_with fail
      go_end0
      exact HR2.out
    · rw [show (2 : Int) ^ (64 - 8 * 4) = 4294967296 by decide] at HR2
      go_wp2_with fail
      refine (HN.out _).mono ?_
      rintro e w3 ⟨rfl, rfl⟩
      go_wp2_with fail
      go_end0
      exact HR2.out
    · rw [show (2 : Int) ^ (64 - 8 * 8) = 1 by decide, Int.mul_one, Int.ediv_one] at HR2
      go_wp2_with fail
      refine (HN.out _).mono ?_
      rintro e w3 ⟨rfl, rfl⟩
      go_wp2_with fail
      go_end0
      exact HR2.out
  · have hs3 := hsm hv
    have hy4 : y2 < 4294967296 := by
      have h4 : (256 : Nat) ^ size ≤ 256 ^ 4 := Nat.pow_le_pow_right (by decide) (by omega)
      have e4 : (256 : Nat) ^ 4 = 4294967296 := by decide
      omega
    have e5 : wrap64 (y2 : Int) = y2 := IntWalk.wrap64_in _ ⟨by omega, by omega⟩
    have HR2 : Hid (FldP w0 p q base ib io y l m sh f (.returned (.tuple #[])) (w2.setCell ⟨p, fldN c, none⟩ (.int .i64 (y2 : Int)))) := Lib.hid (HR.out _ (by rw [if_neg hv]))
    rw [e5]
    clear hsz hsm HR hy2 e5
    generalize fldN c = d at *
    by_cases hc : c = 118
    · have hg : (grtN n == -1) = false := by simpa using fun h => hv ⟨hc, h⟩
      subst hc
      have Hv := Lib.hid hv
      clear hv
      go_wp2_with fail
      refine (HN.out _).mono ?_
      rintro e w3 ⟨rfl, rfl⟩
      go_wp2_with fail
      go_end0
      exact HR2.out
    · have hcc : ((c : Int) == 118) = false := by simp; omega
      have Hv := Lib.hid hv
      have Hc := Lib.hid hc
      clear hv hc
      go_wp2_with fail
      refine (HN.out _).mono ?_
      rintro e w3 ⟨rfl, rfl⟩
      go_wp2_with fail
      go_end0
      exact HR2.out
end Go.Proofs.YtebmmdafmgphdaaDoor
