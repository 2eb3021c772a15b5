/-
  Operations: truth, Unary, Apply and the reference's. No condition.
-/
import Derived.Test.YtjmbllbnlnjanaaTok
import Derived.Deep.QuietTactic
import Derived.BigQuiet
import Derived.Lib.Hide
namespace Go.Proofs.Ytjmbllbnlnjanaa
open Go.RowKit

def bitZ (b : Bool) : Int := if b then 1 else 0
/-- A binary operation's result, and whether there is one. -/
def apP (op a b : Int) : Int × Bool :=
  if op = 3 then (wrap64 (a + b), true)
  else if op = 4 then (wrap64 (a - b), true)
  else if op = 5 then (wrap64 (a * b), true)
  else if op = 8 then (bitZ (decide (a < b)), true)
  else if op = 9 then (bitZ (decide (a ≤ b)), true)
  else if op = 10 then (bitZ (a == b), true)
  else if op = 11 then (bitZ (a != b), true)
  else if b = 0 then (0, false)
  else if op = 6 then (wrap64 (a.tdiv b), true)
  else if op = 7 then (a.tmod b, true)
  else (0, false)
def unP (op a : Int) : Int := if op = 1 then wrap64 (-a) else if op = 2 then bitZ (a == 0) else 0
def IntS (z : Int) (w : World) (e : Ending) (w' : World) : Prop := e = .returned (.int .i64 z) ∧ w' = w
theorem truth_e (b : Bool) (w : World) : Calls Try.prog 19 #[.bool b] w (IntS (bitZ b) w) := by
  cases b with
  | true =>
    go_enter Try.func19, Try.ntmps19
    go_wp2_with fail
    go_ret
    exact ⟨rfl, rfl⟩
  | false =>
    go_enter Try.func19, Try.ntmps19
    go_wp2_with fail
    go_ret
    exact ⟨rfl, rfl⟩
theorem bit_7 (b : Bool) (w : World) : Calls Try.prog 20 #[.bool b] w (IntS (bitZ b) w) := by
  cases b with
  | true =>
    go_enter Try.func20, Try.ntmps20
    go_wp2_with fail
    go_ret
    exact ⟨rfl, rfl⟩
  | false =>
    go_enter Try.func20, Try.ntmps20
    go_wp2_with fail
    go_ret
    exact ⟨rfl, rfl⟩
theorem ne_false {a b : Int} (h : ¬ a = b) : (a == b) = false := by simp [h]
theorem unary_e (op a : Int) (w : World) : Calls Try.prog 8 #[.int .i64 op, .int .i64 a] w (IntS (unP op a) w) := by
  have HT := Lib.hid (truth_e (a == 0) w)
  by_cases h1 : op = 1
  · subst h1
    clear HT
    go_enter Try.func8, Try.ntmps8
    go_wp2_with fail
    go_ret
    exact ⟨rfl, rfl⟩
  · by_cases h2 : op = 2
    · subst h2
      clear h1
      go_enter Try.func8, Try.ntmps8
      go_wp2_with fail
      refine HT.out.mono ?_
      rintro e w1 ⟨rfl, rfl⟩
      go_wp2_with fail
      go_ret
      exact ⟨rfl, rfl⟩
    · have HU : Hid (unP op a = 0) := Lib.hid (by unfold unP; rw [if_neg h1, if_neg h2])
      have h1 := ne_false h1
      have h2 := ne_false h2
      clear HT
      go_enter Try.func8, Try.ntmps8
      go_wp2_with fail
      go_ret
      exact ⟨by rw [HU.out]; rfl, rfl⟩
theorem unary_7 (op a : Int) (w : World) : Calls Try.prog 9 #[.int .i64 op, .int .i64 a] w (IntS (unP op a) w) := by
  have HT := Lib.hid (bit_7 (a == 0) w)
  by_cases h1 : op = 1
  · subst h1
    clear HT
    go_enter Try.func9, Try.ntmps9
    go_wp2_with fail
    go_ret
    exact ⟨rfl, rfl⟩
  · by_cases h2 : op = 2
    · subst h2
      clear h1
      go_enter Try.func9, Try.ntmps9
      go_wp2_with fail
      refine HT.out.mono ?_
      rintro e w1 ⟨rfl, rfl⟩
      go_wp2_with fail
      go_ret
      exact ⟨rfl, rfl⟩
    · have HU : Hid (unP op a = 0) := Lib.hid (by unfold unP; rw [if_neg h1, if_neg h2])
      have h1 := ne_false h1
      have h2 := ne_false h2
      clear HT
      go_enter Try.func9, Try.ntmps9
      go_wp2_with fail
      go_ret
      exact ⟨by rw [HU.out]; rfl, rfl⟩
/-- Behind an Apply: the two results; draws at most. -/
def ApS (x : Int × Bool) (w : World) (e : Ending) (w' : World) : Prop := e = .returned (.tuple #[.int .i64 x.1, .bool x.2]) ∧ ∃ q, w' = w.drewN q
set_option maxRecDepth 10000 in
set_option maxHeartbeats 1000000 in
theorem apply_e (op a b : Int) (w : World) : Calls Try.prog 6 #[.int .i64 op, .int .i64 a, .int .i64 b] w (ApS (apP op a b) w) := by
  have HT := Lib.hid (fun (x : Bool) (w : World) => truth_e x w)
  by_cases h3 : op = 3
  · subst h3
    clear HT
    go_enter Try.func6, Try.ntmps6
    go_wp2_with fail
    go_ret2
    exact ⟨rfl, 0, rfl⟩
  · skip
    by_cases h4 : op = 4
    · subst h4
      clear h3
      clear HT
      go_enter Try.func6, Try.ntmps6
      go_wp2_with fail
      go_ret2
      exact ⟨rfl, 0, rfl⟩
    · skip
      by_cases h5 : op = 5
      · subst h5
        clear h3 h4
        clear HT
        go_enter Try.func6, Try.ntmps6
        go_wp2_with fail
        go_ret2
        exact ⟨rfl, 0, rfl⟩
      · skip
        by_cases h8 : op = 8
        · subst h8
          clear h3 h4 h5
          have HE := Lib.hid (HT.out (decide (a < b)) w)
          clear HT
          go_enter Try.func6, Try.ntmps6
          go_wp2_with fail
          refine HE.out.mono ?_
          rintro e w1 ⟨rfl, rfl⟩
          go_wp2_with fail
          go_ret2
          exact ⟨rfl, 0, rfl⟩
        · skip
          by_cases h9 : op = 9
          · subst h9
            clear h3 h4 h5 h8
            have HE := Lib.hid (HT.out (decide (a ≤ b)) w)
            clear HT
            go_enter Try.func6, Try.ntmps6
            go_wp2_with fail
            refine HE.out.mono ?_
            rintro e w1 ⟨rfl, rfl⟩
            go_wp2_with fail
            go_ret2
            exact ⟨rfl, 0, rfl⟩
          · skip
            by_cases h10 : op = 10
            · subst h10
              clear h3 h4 h5 h8 h9
              have HE := Lib.hid (HT.out (a == b) w)
              clear HT
              go_enter Try.func6, Try.ntmps6
              go_wp2_with fail
              refine HE.out.mono ?_
              rintro e w1 ⟨rfl, rfl⟩
              go_wp2_with fail
              go_ret2
              exact ⟨rfl, 0, rfl⟩
            · skip
              by_cases h11 : op = 11
              · subst h11
                clear h3 h4 h5 h8 h9 h10
                have HE := Lib.hid (HT.out (a != b) w)
                clear HT
                go_enter Try.func6, Try.ntmps6
                go_wp2_with fail
                refine HE.out.mono ?_
                rintro e w1 ⟨rfl, rfl⟩
                go_wp2_with fail
                go_ret2
                exact ⟨rfl, 0, rfl⟩
              · skip
                have HR : Hid (apP op a b = if b = 0 then (0, false) else if op = 6 then (wrap64 (a.tdiv b), true) else if op = 7 then (a.tmod b, true) else (0, false)) := Lib.hid (by unfold apP; rw [if_neg h3, if_neg h4, if_neg h5, if_neg h8, if_neg h9, if_neg h10, if_neg h11])
                replace h3 := ne_false h3
                replace h4 := ne_false h4
                replace h5 := ne_false h5
                replace h8 := ne_false h8
                replace h9 := ne_false h9
                replace h10 := ne_false h10
                replace h11 := ne_false h11
                clear HT
                by_cases hb : b = 0
                · have HR2 := Lib.hid (HR.out.trans (if_pos hb))
                  clear HR
                  subst hb
                  go_enter Try.func6, Try.ntmps6
                  go_wp2_with fail
                  go_ret2
                  exact ⟨by rw [HR2.out]; rfl, 0, rfl⟩
                · have HR2 := Lib.hid (HR.out.trans (if_neg hb))
                  clear HR
                  have hb0 := ne_false hb
                  by_cases h6 : op = 6
                  · subst h6
                    clear h3 h4 h5 h8 h9 h10 h11
                    rw [if_pos rfl] at HR2
                    go_enter Try.func6, Try.ntmps6
                    go_wp2_with fail
                    go_ret2
                    exact ⟨by rw [HR2.out]; rfl, 0, rfl⟩
                  · skip
                    by_cases h7 : op = 7
                    · subst h7
                      clear h6 h3 h4 h5 h8 h9 h10 h11
                      rw [if_neg (by decide), if_pos rfl] at HR2
                      go_enter Try.func6, Try.ntmps6
                      go_wp2_with fail
                      go_ret2
                      exact ⟨by rw [HR2.out]; rfl, 0, rfl⟩
                    · skip
                      rw [if_neg h6, if_neg h7] at HR2
                      replace h6 := ne_false h6
                      replace h7 := ne_false h7
                      go_enter Try.func6, Try.ntmps6
                      go_wp2_with fail
                      go_ret2
                      exact ⟨by rw [HR2.out]; rfl, 0, rfl⟩
set_option maxRecDepth 10000 in
set_option maxHeartbeats 1000000 in
theorem apply_7 (op a b : Int) (w : World) : Calls Try.prog 7 #[.int .i64 op, .int .i64 a, .int .i64 b] w (ApS (apP op a b) w) := by
  have HT := Lib.hid (fun (x : Bool) (w : World) => bit_7 x w)
  by_cases h3 : op = 3
  · subst h3
    clear HT
    go_enter Try.func7, Try.ntmps7
    go_wp2_with fail
    go_ret2
    exact ⟨rfl, 0, rfl⟩
  · skip
    by_cases h4 : op = 4
    · subst h4
      clear h3
      clear HT
      go_enter Try.func7, Try.ntmps7
      go_wp2_with fail
      go_ret2
      exact ⟨rfl, 0, rfl⟩
    · skip
      by_cases h5 : op = 5
      · subst h5
        clear h3 h4
        clear HT
        go_enter Try.func7, Try.ntmps7
        go_wp2_with fail
        go_ret2
        exact ⟨rfl, 0, rfl⟩
      · skip
        by_cases h8 : op = 8
        · subst h8
          clear h3 h4 h5
          have HE := Lib.hid (HT.out (decide (a < b)) w)
          clear HT
          go_enter Try.func7, Try.ntmps7
          go_wp2_with fail
          refine HE.out.mono ?_
          rintro e w1 ⟨rfl, rfl⟩
          go_wp2_with fail
          go_ret2
          exact ⟨rfl, 0, rfl⟩
        · skip
          by_cases h9 : op = 9
          · subst h9
            clear h3 h4 h5 h8
            have HE := Lib.hid (HT.out (decide (a ≤ b)) w)
            clear HT
            go_enter Try.func7, Try.ntmps7
            go_wp2_with fail
            refine HE.out.mono ?_
            rintro e w1 ⟨rfl, rfl⟩
            go_wp2_with fail
            go_ret2
            exact ⟨rfl, 0, rfl⟩
          · skip
            by_cases h10 : op = 10
            · subst h10
              clear h3 h4 h5 h8 h9
              have HE := Lib.hid (HT.out (a == b) w)
              clear HT
              go_enter Try.func7, Try.ntmps7
              go_wp2_with fail
              refine HE.out.mono ?_
              rintro e w1 ⟨rfl, rfl⟩
              go_wp2_with fail
              go_ret2
              exact ⟨rfl, 0, rfl⟩
            · skip
              by_cases h11 : op = 11
              · subst h11
                clear h3 h4 h5 h8 h9 h10
                have HE := Lib.hid (HT.out (a != b) w)
                clear HT
                go_enter Try.func7, Try.ntmps7
                go_wp2_with fail
                refine HE.out.mono ?_
                rintro e w1 ⟨rfl, rfl⟩
                go_wp2_with fail
                go_ret2
                exact ⟨rfl, 0, rfl⟩
              · skip
                have HR : Hid (apP op a b = if b = 0 then (0, false) else if op = 6 then (wrap64 (a.tdiv b), true) else if op = 7 then (a.tmod b, true) else (0, false)) := Lib.hid (by unfold apP; rw [if_neg h3, if_neg h4, if_neg h5, if_neg h8, if_neg h9, if_neg h10, if_neg h11])
                replace h3 := ne_false h3
                replace h4 := ne_false h4
                replace h5 := ne_false h5
                replace h8 := ne_false h8
                replace h9 := ne_false h9
                replace h10 := ne_false h10
                replace h11 := ne_false h11
                clear HT
                by_cases hb : b = 0
                · have HR2 := Lib.hid (HR.out.trans (if_pos hb))
                  clear HR
                  subst hb
                  by_cases h6 : op = 6
                  · subst h6
                    clear h3 h4 h5 h8 h9 h10 h11
                    go_enter Try.func7, Try.ntmps7
                    go_wp2_with fail
                    go_ret2
                    exact ⟨by rw [HR2.out]; rfl, 0, rfl⟩
                  · by_cases h7 : op = 7
                    · subst h7
                      clear h6 h3 h4 h5 h8 h9 h10 h11
                      go_enter Try.func7, Try.ntmps7
                      go_wp2_with fail
                      go_ret2
                      exact ⟨by rw [HR2.out]; rfl, 0, rfl⟩
                    · replace h6 := ne_false h6
                      replace h7 := ne_false h7
                      go_enter Try.func7, Try.ntmps7
                      go_wp2_with fail
                      go_ret2
                      exact ⟨by rw [HR2.out]; rfl, 0, rfl⟩
                · have HR2 := Lib.hid (HR.out.trans (if_neg hb))
                  clear HR
                  have hb0 := ne_false hb
                  by_cases hm : b = -1
                  · subst hm
                    have HD : Hid (wrap64 (a.tdiv (-1)) = wrap64 (-a)) := Lib.hid (by rw [Int.tdiv_neg, Int.tdiv_one])
                    have HM : Hid (a.tmod (-1) = 0) := Lib.hid (by rw [Int.tmod_neg, Int.tmod_one])
                    by_cases h6 : op = 6
                    · subst h6
                      clear hb hb0 h3 h4 h5 h8 h9 h10 h11
                      rw [if_pos rfl] at HR2
                      go_enter Try.func7, Try.ntmps7
                      go_wp2_with fail
                      go_ret2
                      exact ⟨by rw [HR2.out, HD.out]; rfl, 0, rfl⟩
                    · skip
                      by_cases h7 : op = 7
                      · subst h7
                        clear hb hb0 h6 h3 h4 h5 h8 h9 h10 h11
                        rw [if_neg (by decide), if_pos rfl] at HR2
                        go_enter Try.func7, Try.ntmps7
                        go_wp2_with fail
                        go_ret2
                        exact ⟨by rw [HR2.out, HM.out]; rfl, 0, rfl⟩
                      · skip
                        rw [if_neg h6, if_neg h7] at HR2
                        replace h6 := ne_false h6
                        replace h7 := ne_false h7
                        go_enter Try.func7, Try.ntmps7
                        go_wp2_with fail
                        go_ret2
                        exact ⟨by rw [HR2.out]; rfl, 0, rfl⟩
                  · have hm2 : (b != -1) = true := by simp [hm]
                    by_cases h6 : op = 6
                    · subst h6
                      clear h3 h4 h5 h8 h9 h10 h11
                      rw [if_pos rfl] at HR2
                      go_enter Try.func7, Try.ntmps7
                      go_wp2_with fail
                      go_quiet (fail)
                      go_wp2_with fail
                      go_ret2
                      exact ⟨by rw [HR2.out]; rfl, _, rfl⟩
                    · skip
                      by_cases h7 : op = 7
                      · subst h7
                        clear h6 h3 h4 h5 h8 h9 h10 h11
                        rw [if_neg (by decide), if_pos rfl] at HR2
                        go_enter Try.func7, Try.ntmps7
                        go_wp2_with fail
                        go_quiet (fail)
                        go_wp2_with fail
                        go_ret2
                        exact ⟨by rw [HR2.out]; rfl, _, rfl⟩
                      · skip
                        rw [if_neg h6, if_neg h7] at HR2
                        replace h6 := ne_false h6
                        replace h7 := ne_false h7
                        go_enter Try.func7, Try.ntmps7
                        go_wp2_with fail
                        go_ret2
                        exact ⟨by rw [HR2.out]; rfl, 0, rfl⟩
end Go.Proofs.Ytjmbllbnlnjanaa
