/-
  Machine instructions and their bytes: plain mathematics. No condition.
-/
namespace Go.Proofs.YtebmmdafmgphdaaDoor

/-- An instruction. -/
structure Cd where
  op : Int
  ari : Int
  dst : Int
  a : Int
  b : Int
  val : Int
  wide : Bool
  args : List Int
/-- The fields of a row. -/
inductive Fd where
  | o | d | a | b | v | w | c | k | n | j
  deriving DecidableEq
def rowsC : List (List Fd) := [[], [.d, .k], [.d, .a], [.o, .d, .a], [.o, .d, .a, .b], [.d, .v], [.a, .v], [.d, .a, .v], [.a, .b, .v], [.d], [.a], [.d, .c, .n], [.d, .a, .n], [.j], [.a, .j], [.a, .j], [.a], [.w], [.d, .v]]
def rowC (op : Int) : List Fd := if op < 0 then [] else rowsC.getD op.toNat []
def isJ (op : Int) : Bool := op == 13 || op == 14 || op == 15
def slotC (n : Int) : Bool := decide (0 ≤ n) && decide (n < 250)
def ariC (x : Cd) : Bool := if x.op == 3 then x.ari == 1 || x.ari == 2 else if x.op == 4 then decide (3 ≤ x.ari) && decide (x.ari ≤ 11) else true
def slotF (x : Cd) : Fd → Bool
  | .d => slotC x.dst
  | .a => slotC x.a
  | .b => slotC x.b
  | .n => x.args.all slotC && decide (x.args.length ≤ 250)
  | _ => true
def hiC (op : Int) : Option Int :=
  if op == 5 || op == 6 || op == 7 || op == 8 then some 31 else if op == 18 then some 63 else if op == 11 then some 1048576 else if op == 17 then some 4095 else none
def valC (x : Cd) : Bool :=
  if isJ x.op then (if x.wide then decide (-2147483648 ≤ x.val) && decide (x.val ≤ 2147483647) else decide (-128 ≤ x.val) && decide (x.val ≤ 127))
  else match hiC x.op with
    | some h => decide (0 ≤ x.val) && decide (x.val ≤ h)
    | none => true
/-- The first error of an instruction. -/
def chkC (x : Cd) : Nat :=
  if rowC x.op = [] ∨ ariC x = false ∨ (x.wide = true ∧ isJ x.op = false) then 17
  else if (rowC x.op).all (slotF x) = false then 14
  else if valC x = false then 1 else 0
/-- A number in some bytes. -/
def leB : Nat → Int → List Nat
  | 0, _ => []
  | w + 1, x => (x % 256).toNat :: leB w (x / 256)
def leN : List Nat → Nat
  | [] => 0
  | b :: r => b + 256 * leN r
def widC (wide : Bool) : Fd → Nat
  | .w => 2
  | .c => 4
  | .k => 8
  | .j => if wide then 4 else 1
  | _ => 1
def encF (x : Cd) : Fd → List Nat
  | .o => leB 1 x.ari
  | .d => leB 1 x.dst
  | .a => leB 1 x.a
  | .b => leB 1 x.b
  | .n => leB 1 x.args.length ++ x.args.flatMap (leB 1)
  | f => leB (widC x.wide f) x.val
def headC (x : Cd) : Nat := ((x.op + if x.wide then 128 else 0) % 256).toNat
def encC (x : Cd) : List Nat := headC x :: (rowC x.op).flatMap (encF x)
/-- The bytes of an instruction that is right. -/
def encO (x : Cd) : List Nat := if chkC x = 0 then encC x else []
def sgnC (w : Nat) (y : Nat) : Int := if 2 * y < 256 ^ w then y else (y : Int) - 256 ^ w
/-- A field is set. -/
def setF (y : Cd) (wide : Bool) (x : Nat) : Fd → Cd
  | .o => { y with ari := x }
  | .d => { y with dst := x }
  | .a => { y with a := x }
  | .b => { y with b := x }
  | .k => { y with val := sgnC 8 x }
  | .j => { y with val := sgnC (if wide then 4 else 1) x }
  | .n => y
  | _ => { y with val := x }
def decF (y : Cd) (r : List Nat) (f : Fd) : Option (Cd × List Nat) :=
  if r.length < widC y.wide f then none
  else if f = .n then (if (r.drop 1).length < leN (r.take 1) then none else some ({ y with args := y.args ++ ((r.drop 1).take (leN (r.take 1))).map Int.ofNat }, (r.drop 1).drop (leN (r.take 1))))
  else some (setF y y.wide (leN (r.take (widC y.wide f))) f, r.drop (widC y.wide f))
def decFs : List Fd → Cd → List Nat → Option (Cd × List Nat)
  | [], y, r => some (y, r)
  | f :: fs, y, r => match decF y r f with
    | none => none
    | some (z, q) => decFs fs z q
def zeroC : Cd := ⟨0, 0, 0, 0, 0, 0, false, []⟩
/-- The instruction with which bytes begin, its size, the error. -/
def decC : List Nat → Cd × Nat × Nat
  | [] => (zeroC, 0, 2)
  | h :: r =>
    if rowC ((h % 128 : Nat) : Int) = [] ∨ (128 ≤ h ∧ isJ ((h % 128 : Nat) : Int) = false) then (zeroC, 0, 17)
    else match decFs (rowC ((h % 128 : Nat) : Int)) { zeroC with op := ((h % 128 : Nat) : Int), wide := decide (128 ≤ h) } r with
      | none => (zeroC, 0, 2)
      | some (y, q) => if chkC y = 0 then (y, 1 + r.length - q.length, 0) else (zeroC, 0, chkC y)
/-- The instruction at an index. -/
def decAt (l : List Nat) (at_ : Int) : Cd × Nat × Nat := if at_ < 0 then (zeroC, 0, 1) else decC (l.drop at_.toNat)

theorem leB_len : ∀ (w : Nat) (x : Int), (leB w x).length = w
  | 0, _ => rfl
  | w + 1, x => by simp [leB, leB_len w]
theorem leB_byte : ∀ (w : Nat) (x : Int), ∀ y ∈ leB w x, y < 256
  | 0, _, y, h => by simp [leB] at h
  | w + 1, x, y, h => by
    simp only [leB, List.mem_cons] at h
    rcases h with rfl | h
    · omega
    · exact leB_byte w _ y h
theorem leN_leB : ∀ (w : Nat) (x : Int), ((leN (leB w x) : Nat) : Int) = x % (256 ^ w : Nat)
  | 0, x => by simp [leB, leN, Int.emod_one]
  | w + 1, x => by
    have h := leN_leB w (x / 256)
    simp only [leB, leN]
    have h0 : (0 : Int) ≤ x % 256 := Int.emod_nonneg _ (by decide)
    have hM : (0 : Int) < ((256 ^ w : Nat) : Int) := by have := Nat.pow_pos (n := w) (show 0 < 256 by decide); omega
    rw [Int.natCast_add, Int.natCast_mul, h, Int.toNat_of_nonneg h0, Nat.pow_succ, Int.natCast_mul]
    generalize ((256 ^ w : Nat) : Int) = M at *
    have e1 : x = 256 * (x / 256) + x % 256 := by omega
    have e2 : x / 256 = M * (x / 256 / M) + x / 256 % M := (Int.mul_ediv_add_emod _ _).symm
    have h3 : x / 256 % M < M := Int.emod_lt_of_pos _ hM
    have h4 : 0 ≤ x / 256 % M := Int.emod_nonneg _ (by omega)
    have h5 : x % 256 < 256 := by omega
    have e3 : x = (x % 256 + 256 * (x / 256 % M)) + (M * 256) * (x / 256 / M) := by
      have e4 : (M * 256) * (x / 256 / M) = 256 * (M * (x / 256 / M)) := by rw [Int.mul_comm M 256, Int.mul_assoc]
      rw [e4]
      generalize M * (x / 256 / M) = T at *
      omega
    have e5 : x % (M * 256) = (x % 256 + 256 * (x / 256 % M)) % (M * 256) := by
      conv => lhs; rw [e3]
      exact Int.add_mul_emod_self_left _ _ _
    show x % 256 + 256 * (x / 256 % M) = x % (M * 256)
    rw [e5]
    exact (Int.emod_eq_of_lt (by omega) (by omega)).symm
theorem leN_small {w : Nat} {x : Int} (h0 : 0 ≤ x) (h1 : x < (256 ^ w : Nat)) : ((leN (leB w x) : Nat) : Int) = x := by
  rw [leN_leB, Int.emod_eq_of_lt h0 h1]
theorem sgn1 {x : Int} (h0 : -128 ≤ x) (h1 : x ≤ 127) : sgnC 1 (leN (leB 1 x)) = x := by
  have h := leN_leB 1 x
  unfold sgnC
  generalize leN (leB 1 x) = y at *
  simp only [Nat.pow_one, Int.pow_succ, Int.pow_zero] at h ⊢
  split <;> omega
theorem sgn4 {x : Int} (h0 : -2147483648 ≤ x) (h1 : x ≤ 2147483647) : sgnC 4 (leN (leB 4 x)) = x := by
  have h := leN_leB 4 x
  unfold sgnC
  generalize leN (leB 4 x) = y at *
  rw [show (256 ^ 4 : Nat) = 4294967296 from rfl] at *
  rw [show (256 ^ 4 : Int) = 4294967296 from rfl]
  split <;> omega
theorem sgn8 {x : Int} (h0 : -9223372036854775808 ≤ x) (h1 : x ≤ 9223372036854775807) : sgnC 8 (leN (leB 8 x)) = x := by
  have h := leN_leB 8 x
  unfold sgnC
  generalize leN (leB 8 x) = y at *
  rw [show (256 ^ 8 : Nat) = 18446744073709551616 from rfl] at *
  rw [show (256 ^ 8 : Int) = 18446744073709551616 from rfl]
  split <;> omega
theorem byte1 {x : Int} (h0 : 0 ≤ x) (h1 : x < 256) : ((leN (leB 1 x) : Nat) : Int) = x := leN_small h0 (by simpa using h1)
theorem args_back : ∀ (l : List Int), l.all slotC = true → (l.flatMap (leB 1)).length = l.length ∧ (l.flatMap (leB 1)).map Int.ofNat = l
  | [], _ => ⟨rfl, rfl⟩
  | x :: l, h => by
    simp only [List.all_cons, Bool.and_eq_true] at h
    obtain ⟨h1, h2⟩ := args_back l h.2
    have hx := h.1
    simp only [slotC, Bool.and_eq_true, decide_eq_true_eq] at hx
    refine ⟨by rw [List.flatMap_cons, List.length_append, h1, leB_len, List.length_cons]; omega, ?_⟩
    rw [List.flatMap_cons, List.map_append, h2]
    simp only [leB, List.map_cons, List.map_nil, List.cons_append, List.nil_append]
    congr 1
    simp only [Int.ofNat_eq_natCast]
    omega
/-- A field of an instruction is right. -/
def okF (x : Cd) : Fd → Prop
  | .o => 0 ≤ x.ari ∧ x.ari < 256
  | .d => 0 ≤ x.dst ∧ x.dst < 250
  | .a => 0 ≤ x.a ∧ x.a < 250
  | .b => 0 ≤ x.b ∧ x.b < 250
  | .v => 0 ≤ x.val ∧ x.val < 256
  | .w => 0 ≤ x.val ∧ x.val < 65536
  | .c => 0 ≤ x.val ∧ x.val < 4294967296
  | .k => -9223372036854775808 ≤ x.val ∧ x.val ≤ 9223372036854775807
  | .n => x.args.all slotC = true ∧ x.args.length ≤ 250
  | .j => if x.wide then -2147483648 ≤ x.val ∧ x.val ≤ 2147483647 else -128 ≤ x.val ∧ x.val ≤ 127
/-- A field is taken over. -/
def copyF (x y : Cd) : Fd → Cd
  | .o => { y with ari := x.ari }
  | .d => { y with dst := x.dst }
  | .a => { y with a := x.a }
  | .b => { y with b := x.b }
  | .n => { y with args := y.args ++ x.args }
  | _ => { y with val := x.val }
theorem take_pre {a b : List Nat} {n : Nat} (h : a.length = n) : (a ++ b).take n = a ∧ (a ++ b).drop n = b := by
  subst h
  exact ⟨List.take_left, List.drop_left⟩
theorem field_back (x y : Cd) (hw : y.wide = x.wide) (q : List Nat) (f : Fd) (h : okF x f) : decF y (encF x f ++ q) f = some (copyF x y f, q) := by
  have gen : ∀ (w : Nat) (z : Int), f ≠ .n → widC y.wide f = w → encF x f = leB w z → setF y y.wide (leN (leB w z)) f = copyF x y f → decF y (encF x f ++ q) f = some (copyF x y f, q) := by
    intro w z hn hwid he hs
    obtain ⟨h1, h2⟩ := take_pre (b := q) (leB_len w z)
    unfold decF
    rw [he, hwid, if_neg (by rw [List.length_append, leB_len]; omega), if_neg hn, h1, h2, hs]
  cases f with
  | o => exact gen 1 x.ari (by decide) rfl rfl (by simp only [setF, copyF, byte1 h.1 h.2])
  | d => exact gen 1 x.dst (by decide) rfl rfl (by simp only [setF, copyF, byte1 h.1 (Int.lt_trans h.2 (by decide))])
  | a => exact gen 1 x.a (by decide) rfl rfl (by simp only [setF, copyF, byte1 h.1 (Int.lt_trans h.2 (by decide))])
  | b => exact gen 1 x.b (by decide) rfl rfl (by simp only [setF, copyF, byte1 h.1 (Int.lt_trans h.2 (by decide))])
  | v => exact gen 1 x.val (by decide) rfl rfl (by simp only [setF, copyF, byte1 h.1 h.2])
  | w => exact gen 2 x.val (by decide) rfl rfl (by simp only [setF, copyF, leN_small (w := 2) h.1 (by simpa using h.2)])
  | c => exact gen 4 x.val (by decide) rfl rfl (by simp only [setF, copyF, leN_small (w := 4) h.1 (by simpa using h.2)])
  | k => exact gen 8 x.val (by decide) rfl rfl (by simp only [setF, copyF, sgn8 h.1 h.2])
  | j =>
    cases hx : x.wide with
    | true =>
      simp only [okF, hx, if_true] at h
      rw [hx] at hw
      exact gen 4 x.val (by decide) (by simp [widC, hw]) (by simp [encF, widC, hx]) (by simp only [setF, copyF, hw, if_true, sgn4 h.1 h.2])
    | false =>
      simp only [okF, hx, Bool.false_eq_true, if_false] at h
      rw [hx] at hw
      exact gen 1 x.val (by decide) (by simp [widC, hw]) (by simp [encF, widC, hx]) (by simp only [setF, copyF, hw, Bool.false_eq_true, if_false, sgn1 h.1 h.2])
  | n =>
    obtain ⟨h1, h2⟩ := args_back x.args h.1
    have hl : leN (leB 1 (x.args.length : Int)) = x.args.length := by
      have := byte1 (x := (x.args.length : Int)) (by omega) (by have := h.2; omega)
      omega
    unfold decF
    rw [if_neg (by simp [encF, widC, leB]), if_pos rfl]
    have e1 : (encF x .n ++ q).take 1 = leB 1 (x.args.length : Int) := by simp [encF, leB]
    have e2 : (encF x .n ++ q).drop 1 = x.args.flatMap (leB 1) ++ q := by simp [encF, leB]
    obtain ⟨h3, h4⟩ := take_pre (b := q) h1
    rw [e1, e2, hl, if_neg (by rw [List.length_append, h1]; omega), h3, h4, h2]
    rfl
theorem copyF_wide (x y : Cd) (f : Fd) : (copyF x y f).wide = y.wide := by cases f <;> rfl
theorem fields_back (x : Cd) (q : List Nat) : ∀ (fs : List Fd) (y : Cd), y.wide = x.wide → (∀ f ∈ fs, okF x f) → decFs fs y (fs.flatMap (encF x) ++ q) = some (fs.foldl (copyF x) y, q)
  | [], y, _, _ => rfl
  | f :: fs, y, hw, h => by
    have h1 := field_back x y hw (fs.flatMap (encF x) ++ q) f (h f (List.mem_cons_self ..))
    have h2 := fields_back x q fs (copyF x y f) (by rw [copyF_wide]; exact hw) (fun g hg => h g (List.mem_cons_of_mem _ hg))
    simp only [List.flatMap_cons, List.append_assoc, decFs, h1, List.foldl_cons]
    exact h2
theorem row_in {op : Int} (h : rowC op ≠ []) : ∃ n : Nat, n < 19 ∧ 1 ≤ n ∧ op = n := by
  unfold rowC at h
  split at h
  · exact absurd rfl h
  · rename_i h0
    refine ⟨op.toNat, ?_, ?_, by omega⟩
    · rcases Nat.lt_or_ge op.toNat 19 with h1 | h1
      · exact h1
      · rw [List.getD_eq_getElem?_getD, List.getElem?_eq_none (by simpa [rowsC] using h1)] at h
        exact absurd rfl h
    · rcases Nat.eq_zero_or_pos op.toNat with h1 | h1
      · rw [h1] at h
        exact absurd rfl h
      · exact h1
/-- What Check says of an instruction that is right. -/
theorem chk_parts {x : Cd} (h : chkC x = 0) : rowC x.op ≠ [] ∧ ariC x = true ∧ (x.wide = true → isJ x.op = true) ∧ (rowC x.op).all (slotF x) = true ∧ valC x = true := by
  unfold chkC at h
  split at h
  · cases h
  · rename_i h1
    split at h
    · cases h
    · rename_i h2
      split at h
      · cases h
      · rename_i h3
        simp only [not_or, not_and, Bool.not_eq_false] at h1 h2 h3
        exact ⟨h1.1, h1.2.1, h1.2.2, h2, h3⟩
theorem chk_of {x : Cd} (h1 : rowC x.op ≠ []) (h2 : ariC x = true) (h3 : x.wide = true → isJ x.op = true) (h4 : (rowC x.op).all (slotF x) = true) (h5 : valC x = true) : chkC x = 0 := by
  unfold chkC
  rw [if_neg (by simp only [not_or, not_and, Bool.not_eq_false]; exact ⟨h1, h2, h3⟩), if_neg (by simp [h4]), if_neg (by simp [h5])]
/-- The fields that a row names, the others zero. -/
def cutC (x : Cd) : Cd := (rowC x.op).foldl (copyF x) { zeroC with op := x.op, wide := x.wide }
/-- A number as the machine keeps it. -/
def i64C (n : Int) : Prop := -9223372036854775808 ≤ n ∧ n ≤ 9223372036854775807
theorem in_18 {n : Nat} (h : n < 19) (h1 : 1 ≤ n) : n = 1 ∨ n = 2 ∨ n = 3 ∨ n = 4 ∨ n = 5 ∨ n = 6 ∨ n = 7 ∨ n = 8 ∨ n = 9 ∨ n = 10 ∨ n = 11 ∨ n = 12 ∨ n = 13 ∨ n = 14 ∨ n = 15 ∨ n = 16 ∨ n = 17 ∨ n = 18 := by omega
theorem row_ok {x : Cd} (h : chkC x = 0) (hv : i64C x.val) : ∀ f ∈ rowC x.op, okF x f := by
  obtain ⟨h1, h2, h3, h4, h5⟩ := chk_parts h
  obtain ⟨n, hn, hn1, he⟩ := row_in h1
  obtain ⟨op, ari, dst, a, b, val, wide, args⟩ := x
  simp only at he hv
  subst he
  clear h1 h
  unfold i64C at hv
  rcases in_18 hn hn1 with rfl | rfl | rfl | rfl | rfl | rfl | rfl | rfl | rfl | rfl | rfl | rfl | rfl | rfl | rfl | rfl | rfl | rfl <;>
    simp [rowC, rowsC, ariC, slotF, slotC, valC, isJ, hiC] at h2 h3 h4 h5 ⊢ <;>
    simp only [okF] <;> first | omega | (cases wide <;> simp at h3 h5 ⊢ <;> omega) | exact ⟨h4.1, by omega, by simpa [slotC] using h4.2.1, h4.2.2⟩ | exact ⟨h4.1, h4.2.1, by simpa [slotC] using h4.2.2.1, h4.2.2.2⟩
theorem fold_kept (x : Cd) : ∀ (fs : List Fd) (y : Cd), (fs.foldl (copyF x) y).op = y.op ∧ (fs.foldl (copyF x) y).wide = y.wide
  | [], _ => ⟨rfl, rfl⟩
  | f :: fs, y => by
    have h := fold_kept x fs (copyF x y f)
    simp only [List.foldl_cons]
    refine ⟨h.1.trans ?_, h.2.trans (copyF_wide x y f)⟩
    cases f <;> rfl
theorem cut_op (x : Cd) : (cutC x).op = x.op := (fold_kept x _ _).1
theorem cut_wide (x : Cd) : (cutC x).wide = x.wide := (fold_kept x _ _).2
theorem cut_chk {x : Cd} (h : chkC x = 0) : chkC (cutC x) = 0 ∧ encC (cutC x) = encC x := by
  obtain ⟨h1, h2, h3, h4, h5⟩ := chk_parts h
  obtain ⟨n, hn, hn1, he⟩ := row_in h1
  have e1 := cut_op x
  have e2 := cut_wide x
  obtain ⟨op, ari, dst, a, b, val, wide, args⟩ := x
  simp only at he h3 e1 e2
  subst he
  clear h1 h
  rcases in_18 hn hn1 with rfl | rfl | rfl | rfl | rfl | rfl | rfl | rfl | rfl | rfl | rfl | rfl | rfl | rfl | rfl | rfl | rfl | rfl <;> refine ⟨chk_of (by rw [e1]; decide) ?_ (by rw [e1, e2]; exact h3) ?_ ?_, ?_⟩ <;>
    simp [cutC, rowC, rowsC, copyF, zeroC, ariC, slotF, valC, isJ, hiC, encC, encF, headC, widC] at h2 h4 h5 ⊢ <;> (first | done | assumption)
theorem decC_at (hh : Nat) (r q : List Nat) (op : Int) (wd : Bool) (y : Cd) (e1 : ((hh % 128 : Nat) : Int) = op) (e2 : decide (128 ≤ hh) = wd) (h1 : rowC op ≠ []) (h3 : wd = true → isJ op = true)
    (hb : decFs (rowC op) { zeroC with op := op, wide := wd } r = some (y, q)) (hc : chkC y = 0) : decC (hh :: r) = (y, 1 + r.length - q.length, 0) := by
  subst e1 e2
  simp only [decC]
  rw [if_neg, hb]
  · simp only [hc, if_true]
  · rintro (h | ⟨h, hj⟩)
    · exact h1 h
    · rw [h3 (decide_eq_true h)] at hj
      cases hj
/-- What was encoded is decoded. -/
theorem dec_enc {x : Cd} (h : chkC x = 0) (hv : i64C x.val) (q : List Nat) : decC (encC x ++ q) = (cutC x, (encC x).length, 0) := by
  obtain ⟨h1, h2, h3, h4, h5⟩ := chk_parts h
  obtain ⟨n, hn, hn1, he⟩ := row_in h1
  have hop : ((headC x % 128 : Nat) : Int) = x.op := by
    unfold headC
    rw [he]
    split <;> omega
  have hwd : decide (128 ≤ headC x) = x.wide := by
    unfold headC
    rw [he]
    split
    · rename_i hx
      rw [hx]
      exact decide_eq_true (by omega)
    · rename_i hx
      rw [Bool.not_eq_true] at hx
      rw [hx]
      exact decide_eq_false (by omega)
  have hb := fields_back x q (rowC x.op) { zeroC with op := x.op, wide := x.wide } rfl (row_ok h hv)
  refine (decC_at (headC x) _ q x.op x.wide _ hop hwd h1 h3 hb (cut_chk h).1).trans ?_
  refine Prod.ext rfl (Prod.ext ?_ rfl)
  show 1 + ((rowC x.op).flatMap (encF x) ++ q).length - q.length = (encC x).length
  unfold encC
  rw [List.length_append, List.length_cons]
  omega
/-- .. wherever the bytes lie. -/
theorem dec_at {x : Cd} (h : chkC x = 0) (hv : i64C x.val) (p q : List Nat) (n : Nat) (hn : p.length = n) : decAt (p ++ encC x ++ q) (n : Int) = (cutC x, (encC x).length, 0) := by
  subst hn
  unfold decAt
  rw [if_neg (by omega), Int.toNat_natCast, List.append_assoc, List.drop_left]
  exact dec_enc h hv q
theorem dec_end (p : List Nat) (n : Nat) (hn : p.length = n) : decAt p (n : Int) = (zeroC, 0, 2) := by
  subst hn
  unfold decAt
  rw [if_neg (by omega), Int.toNat_natCast, List.drop_length]
  rfl
theorem cut_i64 {x : Cd} (hv : i64C x.val) : i64C (cutC x).val := by
  have : ∀ (fs : List Fd) (y : Cd), i64C y.val → i64C (fs.foldl (copyF x) y).val := by
    intro fs
    induction fs with
    | nil => exact fun y h => h
    | cons f fs ih =>
      intro y h
      refine ih _ ?_
      cases f <;> first | exact h | exact hv
  exact this _ _ (show i64C 0 from ⟨by decide, by decide⟩)
theorem enc_byte (x : Cd) : ∀ y ∈ encC x, y < 256 := by
  have hF : ∀ f, ∀ y ∈ encF x f, y < 256 := by
    intro f y hy
    cases f <;> first | exact leB_byte _ _ y hy | skip
    simp only [encF, List.mem_append, List.mem_flatMap] at hy
    rcases hy with hy | ⟨z, _, hy⟩
    · exact leB_byte _ _ y hy
    · exact leB_byte _ _ y hy
  intro y hy
  unfold encC at hy
  rcases List.mem_cons.1 hy with rfl | hy
  · unfold headC
    omega
  · obtain ⟨f, _, hf⟩ := List.mem_flatMap.1 hy
    exact hF f y hf
/-- Sizes. -/
theorem enc_two {x : Cd} (h : chkC x = 0) : 2 ≤ (encC x).length := by
  obtain ⟨h1, _⟩ := chk_parts h
  obtain ⟨n, hn, hn1, he⟩ := row_in h1
  obtain ⟨op, ari, dst, a, b, val, wide, args⟩ := x
  simp only at he
  subst he
  clear h1 h
  rcases in_18 hn hn1 with rfl | rfl | rfl | rfl | rfl | rfl | rfl | rfl | rfl | rfl | rfl | rfl | rfl | rfl | rfl | rfl | rfl | rfl <;> simp [encC, rowC, rowsC, encF, leB_len, widC] <;> (try cases wide) <;> simp <;> omega
theorem cut_args (x : Cd) (h : chkC x = 0) : (cutC x).args = [] ∨ (cutC x).args = x.args := by
  obtain ⟨h1, _⟩ := chk_parts h
  obtain ⟨n, hn, hn1, he⟩ := row_in h1
  obtain ⟨op, ari, dst, a, b, val, wide, args⟩ := x
  simp only at he
  subst he
  clear h1 h
  rcases in_18 hn hn1 with rfl | rfl | rfl | rfl | rfl | rfl | rfl | rfl | rfl | rfl | rfl | rfl | rfl | rfl | rfl | rfl | rfl | rfl <;> first | exact .inl rfl | exact .inr rfl
theorem flat_len (l : List Int) : (l.flatMap (leB 1)).length = l.length := by
  induction l with
  | nil => rfl
  | cons x l ih => rw [List.flatMap_cons, List.length_append, ih, leB_len, List.length_cons]; omega
theorem enc_most {x : Cd} (h : chkC x = 0) : (encC x).length ≤ 13 + x.args.length := by
  obtain ⟨h1, _⟩ := chk_parts h
  obtain ⟨n, hn, hn1, he⟩ := row_in h1
  obtain ⟨op, ari, dst, a, b, val, wide, args⟩ := x
  simp only at he
  subst he
  clear h1 h
  rcases in_18 hn hn1 with rfl | rfl | rfl | rfl | rfl | rfl | rfl | rfl | rfl | rfl | rfl | rfl | rfl | rfl | rfl | rfl | rfl | rfl <;> simp only [encC, rowC, rowsC, List.length_cons] <;> (try cases wide) <;> simp [-List.length_flatMap, leB_len, flat_len, encF, widC] <;> omega
theorem encF_len (x : Cd) (v : Int) (f : Fd) : (encF { x with val := v } f).length = (encF x f).length := by
  cases f <;> simp [encF, leB_len]
theorem enc_val (x : Cd) (v : Int) : (encC { x with val := v }).length = (encC x).length := by
  have : ∀ fs : List Fd, (fs.flatMap (encF { x with val := v })).length = (fs.flatMap (encF x)).length := by
    intro fs
    induction fs with
    | nil => rfl
    | cons f fs ih => rw [List.flatMap_cons, List.flatMap_cons, List.length_append, List.length_append, ih, encF_len]
  simp only [encC, List.length_cons, this]
theorem enc_short {x : Cd} (h : chkC x = 0) : chkC { x with wide := false, val := 0 } = 0 ∧ (encC { x with wide := false, val := 0 }).length + (if x.wide = true then 3 else 0) = (encC x).length := by
  obtain ⟨h1, h2, h3, h4, h5⟩ := chk_parts h
  obtain ⟨n, hn, hn1, he⟩ := row_in h1
  have hv : valC { x with wide := false, val := 0 } = true := by
    obtain ⟨op, ari, dst, a, b, val, wide, args⟩ := x
    simp only at he
    subst he
    clear h1 h2 h3 h4 h5 h
    rcases in_18 hn hn1 with rfl | rfl | rfl | rfl | rfl | rfl | rfl | rfl | rfl | rfl | rfl | rfl | rfl | rfl | rfl | rfl | rfl | rfl <;> rfl
  have hs : ∀ f, slotF { x with wide := false, val := 0 } f = slotF x f := by intro f; cases f <;> rfl
  refine ⟨chk_of h1 h2 (fun h => by cases h) ?_ hv, ?_⟩
  · have : slotF { x with wide := false, val := 0 } = slotF x := funext hs
    rw [this]
    exact h4
  · cases hw : x.wide with
    | false =>
      have e : ({ x with wide := false, val := 0 } : Cd) = { x with val := 0 } := by rw [← hw]
      rw [e, enc_val]
      rfl
    | true =>
      have hj := h3 hw
      obtain ⟨op, ari, dst, a, b, val, wide, args⟩ := x
      simp only at he hj hw
      subst he hw
      have : n = 13 ∨ n = 14 ∨ n = 15 := by
        simp only [isJ, Bool.or_eq_true, beq_iff_eq] at hj
        omega
      rcases this with rfl | rfl | rfl <;> simp [encC, rowC, rowsC, encF, leB_len, widC]
end Go.Proofs.YtebmmdafmgphdaaDoor
