/-
  The walk of machine's reader of fields: operands. Condition: the bytes can be read.
-/
import Derived.Test.YtebmmdafmgphdaaDoorMacF2
import Derived.Test.YtebmmdafmgphdaaDoorRegT
namespace Go.Proofs.YtebmmdafmgphdaaDoor
open Go.RowKit

theorem FS.drew {w0 w : World} {p q base ib : Nat} {io : Obj} {m : Nat} {y : Cd} {v : Value} {xs : List Nat} {A : Option Addr} {l : List Nat} {rn rc : Nat} {sh : Bool} (h : FS w0 p q base ib io y v m xs A l rn rc sh w) : FS w0 p q base ib io y v m xs A l rn rc sh w.drew :=
  ⟨h.row, h.args, h.own, h.rdr, h.rd, h.byte, h.len, bel_q h.bel 1, h.it, h.lo⟩
theorem FS.at7 {w0 w : World} {p q base ib : Nat} {io : Obj} {m : Nat} {y : Cd} {v : Value} {xs : List Nat} {A : Option Addr} {l : List Nat} {rn rc : Nat} {sh : Bool} (h : FS w0 p q base ib io y v m xs A l rn rc sh w) : KT p v w :=
  (kRow_cells (show w.heap[p]? = some (.cells (kRow y.op y.ari y.dst y.a y.b y.val y.wide v) 26 (0, 0)) from h.row)).2.2.2.2.2.2.2
def Un1P (w0 : World) (p q base ib : Nat) (io : Obj) (y : Cd) (v : Value) (m : Nat) (xs l : List Nat) (sh : Bool) (e : Ending) (w' : World) : Prop :=
  ∃ (t : Nat) (A' : Option Addr) (l' : List Nat) (rn' rc' : Nat) (sh' : Bool), e = .returned (.int .i64 (t : Int)) ∧ t < 256 ∧ FS w0 p q base ib io y v m xs A' l' rn' rc' sh' w' ∧ (sh = true → sh' = true) ∧
    ((l = [] ∧ t = 0 ∧ sh' = true) ∨ (l = t :: l' ∧ sh' = sh))
theorem un1_any (w0 : World) (p q base ib : Nat) (io : Obj) (y : Cd) (v : Value) (m : Nat) (xs : List Nat) (A : Option Addr) (l : List Nat) (rn rc : Nat) (sh : Bool) (w : World) (h : FS w0 p q base ib io y v m xs A l rn rc sh w) :
    Calls Tryd.prog 27 #[.pointer (some ⟨q, 0, none⟩), .int .i64 1] w (Un1P w0 p q base ib io y v m xs l sh) := by
  refine (unsigned_any q A l rn rc 1 sh w h.rdr h.len.1 h.len.2.1 (h.rd.below h.bel) h.byte (by decide)).mono ?_
  intro e w' hu
  unfold UnP at hu
  have hl := h.len.1
  match l, hl with
  | [], hl =>
    rw [if_pos (by rw [← hl]; decide)] at hu
    obtain ⟨rfl, rfl⟩ := hu
    exact ⟨0, _, _, _, _, true, rfl, by decide, h.short, fun _ => rfl, .inl ⟨rfl, rfl, rfl⟩⟩
  | x :: r, hl =>
    rw [if_neg (by rw [← hl]; simp)] at hu
    obtain ⟨rfl, rfl⟩ := hu
    have hx : x < 256 := h.byte x (List.mem_cons_self ..)
    have e1 : leN (List.take 1 (x :: r)) = x := by simp [leN]
    refine ⟨x, _, _, _, _, sh, ?_, hx, h.moved 1 (by rw [← hl]; simp), id, .inr ⟨rfl, rfl⟩⟩
    rw [e1, IntWalk.wrap64_in _ ⟨by omega, by omega⟩]
/-- The operands are set. -/
def argC (y : Cd) (xs : List Nat) : Cd := { y with args := xs.map Int.ofNat }
theorem FS.push {w0 w w' : World} {p q base ib : Nat} {io : Obj} {m : Nat} {y : Cd} {v v' : Value} {xs : List Nat} {A : Option Addr} {l : List Nat} {rn rc : Nat} {sh : Bool} (h : FS w0 p q base ib io y v m xs A l rn rc sh w) (t : Nat)
    (ho : w'.ownsRow base 3 1 v' (m + 1) ((xs ++ [t]).map nv)) (hg : w.grownBy w' v.ownBlock) :
    w'.heap[p]? = some (.cells (cRow y v) 26 (0, 0)) ∧ FS w0 p q base ib io (argC y (xs ++ [t])) v' (m + 1) (xs ++ [t]) A l rn rc sh (w'.setCell ⟨p, 7, none⟩ v') := by
  have hb : Below base w w' := grown_any hg (own_lo h.own) h.lo.2.2.2.2.2
  have hr := (hb.block p h.lo.2.2.2.1).trans h.row
  refine ⟨hr, ?_, rfl, ho.kept (set_only w' p _ _) (own_ne ho h.lo.2.2.2.1), ?_, h.rd, h.byte, ⟨h.len.1, h.len.2.1, by rw [List.length_append, h.len.2.2]; rfl⟩, (h.bel.trans (hb.mono (by have := h.lo; omega))).setCell h.lo.1 _, ⟨(Below.heap_setCell w' _ _ ib (fun e => h.it.2.1 e)).trans ((hb.block ib h.it.2.2.2).trans h.it.1), h.it.2⟩, by
    have hl := h.lo
    have hs := hb.size
    have e : (w'.setCell ⟨p, 7, none⟩ v').heap.size = w'.heap.size := by simp
    rw [e]
    omega⟩
  · exact heap_setCell_same w' p 7 _ _ v' hr
  · exact (Below.heap_setCell w' _ _ q (fun e => h.lo.2.2.1 e.symm)).trans ((hb.block q h.lo.2.2.2.2.1).trans h.rdr)
/-- Operands under way. -/
def ArR (w0 : World) (p q base ib : Nat) (io : Obj) (y : Cd) (m : Nat) (xs l1 : List Nat) (sh1 : Bool) (j : Nat) (wr : World) : Prop :=
  ∃ v' xs' A' l' rn' rc' sh', FS w0 p q base ib io (argC y xs') v' (m + j) xs' A' l' rn' rc' sh' wr ∧ (sh1 = true → sh' = true) ∧ (sh1 = false → (j ≤ l1.length ∧ sh' = false ∧ xs' = xs ++ l1.take j ∧ l' = l1.drop j) ∨ (l1.length < j ∧ sh' = true))
theorem ar_step {sh1 sh sh' : Bool} {xs l1 xs' l l' : List Nat} {j t : Nat} (h0 : sh1 = true → sh = true) (h1 : sh1 = false → (j ≤ l1.length ∧ sh = false ∧ xs' = xs ++ l1.take j ∧ l = l1.drop j) ∨ (l1.length < j ∧ sh = true))
    (h2 : sh = true → sh' = true) (h3 : (l = [] ∧ t = 0 ∧ sh' = true) ∨ (l = t :: l' ∧ sh' = sh)) :
    (sh1 = true → sh' = true) ∧ (sh1 = false → (j + 1 ≤ l1.length ∧ sh' = false ∧ xs' ++ [t] = xs ++ l1.take (j + 1) ∧ l' = l1.drop (j + 1)) ∨ (l1.length < j + 1 ∧ sh' = true)) := by
  refine ⟨fun h => h2 (h0 h), fun h => ?_⟩
  rcases h1 h with ⟨ha, hb, hc, hd⟩ | ⟨ha, hb⟩
  · rcases h3 with ⟨hn, rfl, hs⟩ | ⟨hn, hs⟩
    · refine .inr ⟨?_, hs⟩
      have := congrArg List.length hn
      rw [hd, List.length_drop] at this
      simp only [List.length_nil] at this
      omega
    · have hjl : j < l1.length := by
        have := congrArg List.length hn
        rw [hd, List.length_drop] at this
        simp only [List.length_cons] at this
        omega
      have hdr : l1.drop j = l1[j] :: l1.drop (j + 1) := List.drop_eq_getElem_cons hjl
      rw [hd, hdr] at hn
      injection hn with hn1 hn2
      refine .inl ⟨hjl, hs.trans hb, ?_, hn2.symm⟩
      rw [hc, take_step hjl, hn1, List.append_assoc]
  · exact .inr ⟨by omega, h2 hb⟩
set_option linter.unusedSimpArgs false in
set_option maxRecDepth 100000 in
set_option maxHeartbeats 2000000 in
theorem fieldL_any (w0 : World) (p q base ib : Nat) (io : Obj) (y : Cd) (v : Value) (m : Nat) (xs : List Nat) (A : Option Addr) (l : List Nat) (rn rc : Nat) (sh : Bool) (w : World) (h : FS w0 p q base ib io y v m xs A l rn rc sh w) (hm : m ≤ 1000) :
    Calls Tryd.prog 21 #[.pointer (some ⟨q, 0, none⟩), .pointer (some ⟨p, 0, none⟩), .int .i32 108] w (FldP w0 p q base ib io y l m sh .n) := by
  have HU := Lib.hid (un1_any w0 p q base ib io y v m xs A l rn rc sh w h)
  have ha := h.args
  have Ha := Lib.hid ha
  clear h ha
  go_enter Tryd.func21, Tryd.ntmps21
  go_wp2_with fail
  refine HU.out.mono ?_
  rintro e w1 ⟨k, A1, l1, rn1, rc1, sh1, rfl, hk, hF1, hs1, hs2⟩
  have Hs1 := Lib.hid hs1
  have Hs2 := Lib.hid hs2
  have HA0 : Hid (ArR w0 p q base ib io y m xs l1 sh1 0 w1) := Lib.hid ⟨v, xs, A1, l1, rn1, rc1, sh1, by
    have e : argC y xs = y := by
      unfold argC
      rw [← Ha.out]
    rw [e]
    exact hF1, id, fun h => .inl ⟨Nat.zero_le _, h, by simp, rfl⟩⟩
  clear hF1 hs1 hs2 HU
  go_wp2_with fail
  go_loopw [13] (fun i wr => ∃ j : Nat, j ≤ k ∧ i = .int .i64 (j : Int) ∧ ArR w0 p q base ib io y m xs l1 sh1 j wr) (fun i _ => k - (intOf i).toNat)
  case atStart => exact ⟨0, Nat.zero_le _, rfl, HA0.out⟩
  case round =>
    obtain ⟨j, hj, rfl, v2, xs2, A2, l2, rn2, rc2, sh2, hF2, ht1, ht2⟩ := hrel
    have HF2 := Lib.hid hF2
    have Ht1 := Lib.hid ht1
    have Ht2 := Lib.hid ht2
    clear ht1 ht2 HA0
    by_cases hjk : j < k
    · have q7 : KT p v2 wr := hF2.at7
      clear hF2
      go_upto_region 3 with fail
      refine GoT.region (S := KE) (T := KT p v2) (z := 11) (by kernel_rfl) trivial q7 (fun _ => ?_)
      simp only [List.size_toArray, List.length_cons, List.length_nil, Nat.zero_add, Nat.reduceAdd]
      have hT0 : KT p v2 wr.drew := q7
      clear q7
      refine GoT.take (i := 0) (v := ?_) rfl rfl (by decide +kernel) (by kernel_rfl) (by decide +kernel) (by decide +kernel) (fun _ _ _ h => h) (Or.inl ⟨by rfl, ?_⟩) ⟨trivial, (by first | exact .inr (by assumption) | exact .inl (by decide +kernel))⟩ ?_
      rotate_left
      · intro w hSw
        go_simp
        (try with_reducible rfl)
      try simp only [List.getElem_toArray, List.getElem_cons_zero, List.getElem_cons_succ, Act.put, List.setIfInBounds_toArray, List.set_cons_zero, List.set_cons_succ]
      refine GoT.take (i := 1) (v := ?_) rfl rfl (by decide +kernel) (by kernel_rfl) (by decide +kernel) (by decide +kernel) (fun _ _ _ h => h) (Or.inl ⟨by rfl, ?_⟩) ⟨trivial, (by first | exact .inr (by assumption) | exact .inl (by decide +kernel))⟩ ?_
      rotate_left
      · intro w hSw
        go_simp
        (try with_reducible rfl)
      try simp only [List.getElem_toArray, List.getElem_cons_zero, List.getElem_cons_succ, Act.put, List.setIfInBounds_toArray, List.set_cons_zero, List.set_cons_succ]
      refine GoT.take (i := 2) (v := ?_) rfl rfl (by decide +kernel) (by kernel_rfl) (by decide +kernel) (by decide +kernel) (fun _ _ _ h => h) (Or.inl ⟨by rfl, ?_⟩) ⟨trivial, (by first | exact .inr (by assumption) | exact .inl (by decide +kernel))⟩ ?_
      rotate_left
      · intro w hSw
        go_simp
        (try with_reducible rfl)
      try simp only [List.getElem_toArray, List.getElem_cons_zero, List.getElem_cons_succ, Act.put, List.setIfInBounds_toArray, List.set_cons_zero, List.set_cons_succ]
      refine GoT.take (i := 3) (v := ?_) rfl rfl (by decide +kernel) (by kernel_rfl) (by decide +kernel) (by decide +kernel) (fun _ _ _ h => h) (Or.inl ⟨by rfl, ?_⟩) ⟨trivial, (by first | exact .inr (by assumption) | exact .inl (by decide +kernel))⟩ ?_
      rotate_left
      · intro w hSw
        go_simp
        (try with_reducible rfl)
      try simp only [List.getElem_toArray, List.getElem_cons_zero, List.getElem_cons_succ, Act.put, List.setIfInBounds_toArray, List.set_cons_zero, List.set_cons_succ]
      refine GoT.takeT (i := 4) (v := ?_) rfl rfl (by decide +kernel) (by kernel_rfl) (by decide +kernel) (by decide +kernel) (fun _ _ _ h => h) (Or.inl ⟨by rfl, ?_⟩) ⟨trivial, .inr (by assumption)⟩ ?_
      rotate_left
      · intro w hSw
        unfold KT at hSw
        go_simp
        (try with_reducible rfl)
      try simp only [List.getElem_toArray, List.getElem_cons_zero, List.getElem_cons_succ, Act.put, List.setIfInBounds_toArray, List.set_cons_zero, List.set_cons_succ]
      refine GoT.take (i := 5) (v := ?_) rfl rfl (by decide +kernel) (by kernel_rfl) (by decide +kernel) (by decide +kernel) (fun _ _ _ h => h) (Or.inl ⟨by rfl, ?_⟩) ⟨trivial, (by first | exact .inr (by assumption) | exact .inl (by decide +kernel))⟩ ?_
      rotate_left
      · intro w hSw
        go_simp
        (try with_reducible rfl)
      try simp only [List.getElem_toArray, List.getElem_cons_zero, List.getElem_cons_succ, Act.put, List.setIfInBounds_toArray, List.set_cons_zero, List.set_cons_succ]
      refine GoT.next (rs := [6]) (by decide +kernel) (by simp) (AllT.cons rfl (fun K hK => ?_) AllT.nil)
      dsimp only [List.getElem_toArray, List.getElem_cons_zero, List.getElem_cons_succ]
      go_simp
      go_at_call 27
      (with_reducible refine (un1_any w0 p q base ib io (argC y xs2) v2 (m + j) xs2 A2 l2 rn2 rc2 sh2 wr.drew HF2.out.drew).mono ?_)
      rintro e w3 ⟨t, A3, l3, rn3, rc3, sh3, rfl, ht, hF3, hs3, hs4⟩
      have hT2 : KT p v2 w3 := hF3.at7
      have HF3 := Lib.hid hF3
      have HS := Lib.hid (ar_step Ht1.out Ht2.out hs3 hs4)
      clear hF3 hs3 hs4
      dsimp only
      refine hK.out _ _ ⟨trivial, .inr hT2⟩ (fun _ => ?_)
      clear hK K
      try simp only [Act.put, List.setIfInBounds_toArray, List.set_cons_zero, List.set_cons_succ]
      refine GoT.next (rs := [7]) (by decide +kernel) (by simp) (AllT.cons rfl (fun K hK => ?_) AllT.nil)
      have hTa : KT p v2 (w3.alloc (.cells #[.int .i64 (t : Int)] 3)) := (HF3.out.low ((Below.refl _ _).alloc (Nat.le_refl _) _)).at7
      dsimp only [List.getElem_toArray, List.getElem_cons_zero, List.getElem_cons_succ]
      go_simp
      refine hK.out _ _ ⟨trivial, .inr hTa⟩ (fun _ => ?_)
      clear hK K hTa hT2
      try simp only [Act.put, List.setIfInBounds_toArray, List.set_cons_zero, List.set_cons_succ]
      refine GoT.next (rs := [8]) (by decide +kernel) (by simp) (AllT.cons rfl (fun K hK => ?_) AllT.nil)
      refine step_append_nt w3 ?_ (.tmp 19) (.tmp 22) ?_ base v2 xs2 (m + j) t ?_ ?_ HF3.out.own (by omega) HF3.out.lo.2.2.2.2.2 ?_
      · rfl
      · rfl
      · rfl
      · rfl
      rintro v' w4 hown hg ⟨A', c', rfl⟩
      obtain ⟨hr4, hF4⟩ := HF3.out.push t hown hg
      have q4 := (kRow_cells (show w4.heap[p]? = some (.cells (kRow (argC y xs2).op (argC y xs2).ari (argC y xs2).dst (argC y xs2).a (argC y xs2).b (argC y xs2).val (argC y xs2).wide v2) 26 (0, 0)) from hr4)).2.2.2.2.2.2.2
      have hT3 : KT p v2 w4 := q4
      have c3 : w4.cell? ⟨p, 7, none⟩ = some v2 := hT3
      have f3 := codes_frozen hr4 7
      have HE : Hid (ArR w0 p q base ib io y m xs l1 sh1 (j + 1) (w4.setCell ⟨p, 7, none⟩ (.slice A' (m + j + 1) c'))) := Lib.hid ⟨_, _, _, _, _, _, _, hF4, HS.out.1, HS.out.2⟩
      clear hown hg hr4 hF4 q4 HS
      refine hK.out _ _ ⟨trivial, .inr hT3⟩ (fun _ => ?_)
      clear hK K
      try simp only [List.getElem_toArray, List.getElem_cons_zero, List.getElem_cons_succ, Act.put, List.setIfInBounds_toArray, List.set_cons_zero, List.set_cons_succ]
      refine GoT.take (i := 9) (v := ?_) rfl rfl (by decide +kernel) (by kernel_rfl) (by decide +kernel) (by decide +kernel) (fun _ _ _ h => h) (Or.inl ⟨by rfl, ?_⟩) ⟨trivial, (by first | exact .inr (by assumption) | exact .inl (by decide +kernel))⟩ ?_
      rotate_left
      · intro w hSw
        go_simp
        (try with_reducible rfl)
      try simp only [List.getElem_toArray, List.getElem_cons_zero, List.getElem_cons_succ, Act.put, List.setIfInBounds_toArray, List.set_cons_zero, List.set_cons_succ]
      refine GoT.take (i := 10) (v := ?_) rfl rfl (by decide +kernel) (by kernel_rfl) (by decide +kernel) (by decide +kernel) (fun _ _ _ h => h) (Or.inl ⟨by rfl, ?_⟩) ⟨trivial, (by first | exact .inr (by assumption) | exact .inl (by decide +kernel))⟩ ?_
      rotate_left
      · intro w hSw
        go_simp
        (try with_reducible rfl)
      try simp only [List.getElem_toArray, List.getElem_cons_zero, List.getElem_cons_succ, Act.put, List.setIfInBounds_toArray, List.set_cons_zero, List.set_cons_succ]
      refine GoT.next (rs := [11]) (by decide +kernel) (by simp) (AllT.cons rfl (fun K hK => ?_) AllT.nil)
      dsimp only [List.getElem_toArray, List.getElem_cons_zero, List.getElem_cons_succ]
      go_simp
      refine hK.out _ _ ⟨trivial, .inl (by decide +kernel)⟩ (fun _ => ?_)
      clear hK K
      try simp only [Act.put, List.setIfInBounds_toArray, List.set_cons_zero, List.set_cons_succ]
      refine GoT.done (by decide +kernel) ?_ _
      clear hT3 c3 f3
      go_wp2_with fail
      exact ⟨⟨j + 1, by omega, by go_num, HE.out⟩, by simp [intOf]; omega⟩
    · obtain rfl : j = k := by omega
      have HR : Hid (FldP w0 p q base ib io y l m sh .n (.returned (.tuple #[])) wr) := Lib.hid (by
        refine ⟨_, _, _, _, _, _, _, _, _, rfl, HF2.out, rfl, rfl, fun h => Ht1.out (Hs1.out h), ?_, by omega, fun h => absurd rfl h⟩
        intro hsf
        rcases Hs2.out with ⟨rfl, hk0, hsh⟩ | ⟨hl, hsh⟩
        · refine .inr ⟨rfl, Ht1.out hsh⟩
        · have hd : decF y l .n = if l1.length < j then none else some ({ y with args := y.args ++ (l1.take j).map Int.ofNat }, l1.drop j) := by
            subst hl
            unfold decF
            rw [if_neg (by simp [widC])]
            simp [leN]
          rw [hd]
          rcases Ht2.out (hsh.trans hsf) with ⟨h1, h2, h3, h4⟩ | ⟨h1, h2⟩
          · refine .inl ⟨?_, h2⟩
            rw [if_neg (by omega), h4, h3, Ha.out]
            unfold argC
            rw [List.map_append]
          · rw [if_pos h1]
            exact .inr ⟨rfl, h2⟩)
      clear HF2 hF2 Ht1 Ht2 Hs1 Hs2
      go_wp2_with fail
      go_end0
      exact HR.out
end Go.Proofs.YtebmmdafmgphdaaDoor
