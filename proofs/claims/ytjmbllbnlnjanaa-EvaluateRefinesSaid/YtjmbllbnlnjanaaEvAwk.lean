/-
  The example of the chapter on evaluate: its text is parsed and resolved by the reference, and the program runs it. No condition.
-/
import Derived.Test.YtjmbllbnlnjanaaRpParse
import Derived.Test.YtjmbllbnlnjanaaScanF
import Derived.Test.YtjmbllbnlnjanaaEvRun2
import Derived.Test.YtjmbllbnlnjanaaEvLaw
import Derived.KernelRfl
namespace Go.Proofs.Ytjmbllbnlnjanaa
open Go.RowKit

/-- parseR, by a scanner of counted steps. -/
def parseF (d : Nat) (l : Bytes) : Option (Except (Nat × Nat) (Gls × List Fn)) :=
  match (if 65536 < l.length then (.error (0, 5) : Except (Nat × Nat) (List Tok)) else match scanF (l.length + 1) 1 l with | .error n => .error (n, 6) | .ok ts => .ok ts) with
  | .error q => some (.error q)
  | .ok ts =>
    match sourceR (blockR (stmtA d)) (ts.length + 1) [] [] ⟨ts, false, 0⟩ with
    | none => none
    | some (gl, fl, s) => if (doneR s).2 = 0 then some (.ok (gl, fl)) else some (.error (doneR s))
theorem parseF_eq (d : Nat) (l : Bytes) : parseF d l = parseR d l := by
  unfold parseF parseR scanT
  rw [scanF_eq _ _ _ (Nat.lt_succ_self _)]
  rfl
def txA : ByteArray := ⟨#[102, 117, 110, 99, 32, 109, 97, 105, 110, 40, 41, 32, 123, 32, 112, 114, 105, 110, 116, 32, 55, 32, 47, 32, 50, 59, 32, 114, 101, 116, 117, 114, 110, 32, 48, 32, 45, 32, 55, 32, 37, 32, 50, 59, 32, 125]⟩
def nA (n : Int) : Ex := .mk 1 0 n 1 ⟨#[]⟩ []
def exA : Ex := .mk 6 6 0 1 ⟨#[]⟩ [nA 7, nA 2]
def exB : Ex := .mk 6 4 0 1 ⟨#[]⟩ [nA 0, .mk 6 7 0 1 ⟨#[]⟩ [nA 7, nA 2]]
def bodyA : List St := [.mk 7 1 ⟨#[]⟩ [exA] [] [], .mk 6 1 ⟨#[]⟩ [exB] [] []]
theorem parse_A : parseF 2 txA.data.toList = some (.ok ([], [mainF 1 bodyA])) := by kernel_rfl
theorem flat_A : flL bodyA = true := by kernel_rfl
theorem ok_A : okL bodyA = true := by kernel_rfl
theorem num_A : bodyA.map numS = [((7 : Int), exA), (6, exB)].map (fun y => (y.1, [y.2])) := by kernel_rfl
theorem run_A : runB (min 100 1099511627776) [((7 : Int), exA), (6, exB)] 0 [] = some (-1, 1, 10, [3]) := by kernel_rfl
theorem kinds_A : ∀ y ∈ [((7 : Int), exA), (6, exB)], (y.1 = 6 ∨ y.1 = 7) ∧ arX y.2 = true := by
  intro y hy
  rcases List.mem_cons.1 hy with rfl | hy
  · exact ⟨.inr rfl, by kernel_rfl⟩
  · rcases List.mem_cons.1 hy with rfl | hy
    · exact ⟨.inl rfl, by kernel_rfl⟩
    · cases hy
theorem parsed_A (w : World) : Calls Try.prog 16 #[.string txA] w fun e w' => ∃ D d gA gc fA fc, e = .returned (.tuple #[.agg #[.slice gA 0 gc, .slice fA 1 fc], .int .i64 0, .int .i64 0]) ∧ RowG 4 (MFn D d) (fun q => w.heap.size ≤ q ∧ q < w'.heap.size) w' [mainF 1 bodyA] fA fc ∧ Below w.heap.size w w' := by
  refine (parse_r 2 txA (.ok ([], [mainF 1 bodyA])) w (by decide) (by rw [← parseF_eq]; exact parse_A)).mono ?_
  rintro e w' ⟨D, d, gA, gc, fA, fc, he, _, h2, h3⟩
  exact ⟨D, d, gA, gc, fA, fc, he, h2, h3⟩
set_option maxRecDepth 100000 in
set_option maxHeartbeats 2000000 in
theorem awake_7 : AwakeC := by
  intro w
  have HP := Lib.hid (parsed_A w)
  unfold txA at HP
  go_enter Try.func5, Try.ntmps5
  go_wp2_with fail
  refine HP.out.mono ?_
  rintro e w1 ⟨D, d, gA, gc, fA, fc, rfl, hrow1, hb1⟩
  have hb2 := (Below.refl _ w1).alloc (Nat.le_refl _) (.cells #[.slice gA 0 gc, .slice fA 1 fc] 40)
  have hx2 := heap_alloc_new w1 (.cells #[.slice gA 0 gc, .slice fA 1 fc] 40)
  have a0 := cell_of_row _ _ 0 _ _ _ hx2
  have a1 := cell_of_row _ _ 1 _ _ _ hx2
  have HR2 := Lib.hid (resolve_m 1 bodyA gA gc fA fc (w1.alloc (.cells #[.slice gA 0 gc, .slice fA 1 fc] 40)) (hrow1.keep (mfn_keeps D d) (fun _ h => h) (fun b hb => hb2.block b hb.2)) (fun b hb => Nat.lt_of_lt_of_le hb.2 hb2.size) flat_A (by decide))
  have HB2 := Lib.hid (hb1.trans (hb2.mono hb1.size))
  have hs12 := hb1.size
  clear hrow1 hb1 hb2 hx2 HP
  go_wp2_with fail
  refine HR2.out.mono ?_
  rintro e w3 ⟨A3, c3, rfl, hrow3, hb3⟩
  have hb4 := (Below.refl _ w3).alloc (Nat.le_refl _) (.cells #[.slice none 0 0, .slice A3 1 c3] 40)
  have hx4 := heap_alloc_new w3 (.cells #[.slice none 0 0, .slice A3 1 c3] 40)
  have b0 := cell_of_row _ _ 0 _ _ _ hx4
  have b1 := cell_of_row _ _ 1 _ _ _ hx4
  have HR4 := Lib.hid (run_e 1 bodyA [((7 : Int), exA), (6, exB)] none 0 A3 c3 100 2 (w3.alloc (.cells #[.slice none 0 0, .slice A3 1 c3] 40)) (hrow3.keep (mfn_keeps D 1) (fun _ h => h) (fun b hb => hb4.block b hb.2)) (fun b hb => Nat.lt_of_lt_of_le hb.2 hb4.size) flat_A ok_A (by decide) num_A (by decide) kinds_A (by decide) run_A (by decide))
  have HB4 := Lib.hid ((HB2.out.trans (hb3.mono HB2.out.size)).trans (hb4.mono (HB2.out.trans (hb3.mono HB2.out.size)).size))
  clear hrow3 hb3 hb4 hx4 HR2 HB2 a0 a1
  go_wp2_with fail
  refine HR4.out.mono ?_
  rintro e w5 ⟨A5, n5, c5, rfl, hn5, hrow5, hb5⟩
  obtain ⟨g5, cs5, rfl, _, _, hc5, hcs5⟩ := hrow5.2 0 3 rfl
  change n5 = 1 at hn5
  subst hn5
  have hx := hc5 0 (.int .i64 3) (by rw [show cs5 = [.int .i64 3] from hcs5]; rfl)
  have hx : w5.cell? ⟨g5, 0, none⟩ = some (.int .i64 3) := hx
  have hb6 := (Below.refl _ w5).alloc (Nat.le_refl _) (.cells #[.int .i64 1, .int .i64 (-1), .int .i64 0, .slice (some ⟨g5, 0, none⟩) 1 c5] 29)
  have hx6 := heap_alloc_new w5 (.cells #[.int .i64 1, .int .i64 (-1), .int .i64 0, .slice (some ⟨g5, 0, none⟩) 1 c5] 29)
  have hx' := hold hb6 hx
  have d0 := cell_of_row _ _ 0 _ _ _ hx6
  have d1 := cell_of_row _ _ 1 _ _ _ hx6
  have d3 := cell_of_row _ _ 3 _ _ _ hx6
  have HB6 := Lib.hid ((HB4.out.trans (hb5.mono HB4.out.size)).trans (hb6.mono (HB4.out.trans (hb5.mono HB4.out.size)).size))
  have hc5' : 1 ≤ c5 := hrow5.1
  clear hrow5 hb5 hb6 hx6 HR4 HB4 hc5 hcs5 hx b0 b1
  go_wp2_with fail
  go_ret
  exact ⟨rfl, HB6.out⟩
theorem ops_law (op a b k : Int) (w : World) (h1 : -9223372036854775808 ≤ a) (h2 : a ≤ 9223372036854775807) (hk : 0 ≤ k) (hk2 : k < 256) :
    Calls Try.prog 3 #[.int .i64 op, .int .i64 a, .int .i64 b, .int .u8 k] w fun e w' => e = .returned (.bool true) ∧ Below w.heap.size w w' := ops_any awake_7 op a b k w h1 h2 hk hk2
end Go.Proofs.Ytjmbllbnlnjanaa
