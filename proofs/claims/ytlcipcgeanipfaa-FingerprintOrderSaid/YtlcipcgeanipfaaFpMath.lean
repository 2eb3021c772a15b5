/-
  Fingerprints as plain numbers: Scramble, Join, Bytes, List and Set over natural numbers modulo 2^64, and that Scramble and Join lose nothing. No condition.
-/
import Derived.WalkKit
namespace Go.Proofs.Ytlcipcgeanipfaa

theorem x64 {a b : Nat} (ha : a < 18446744073709551616) (hb : b < 18446744073709551616) : a ^^^ b < 18446744073709551616 := Nat.xor_lt_two_pow (n := 64) ha hb

/-- A number, its upper part laid over the lower one. -/
def lay (x : Nat) : Nat := x ^^^ (x / 8589934592)
theorem lay_lt {x : Nat} (h : x < 18446744073709551616) : lay x < 18446744073709551616 := x64 h (by omega)
theorem lay_lay {x : Nat} (h : x < 18446744073709551616) : lay (lay x) = x := by
  have e : ∀ y : Nat, y / 8589934592 = y >>> 33 := fun y => by rw [Nat.shiftRight_eq_div_pow]
  unfold lay
  simp only [e]
  rw [Nat.shiftRight_xor_distrib, ← Nat.shiftRight_add]
  have h0 : x >>> (33 + 33) = 0 := by
    rw [Nat.shiftRight_eq_div_pow]
    exact Nat.div_eq_of_lt (Nat.lt_of_lt_of_le h (by decide))
  rw [h0, Nat.xor_zero, Nat.xor_assoc, Nat.xor_self, Nat.xor_zero]
theorem lay_inj {x y : Nat} (hx : x < 18446744073709551616) (hy : y < 18446744073709551616) (h : lay x = lay y) : x = y := by
  rw [← lay_lay hx, ← lay_lay hy, h]

/-- A product with a number that has an inverse loses nothing. -/
def mulm (c x : Nat) : Nat := x * c % 18446744073709551616
theorem mulm_lt (c x : Nat) : mulm c x < 18446744073709551616 := Nat.mod_lt _ (by decide)
theorem mulm_inj {c i x y : Nat} (hi : c * i % 18446744073709551616 = 1) (hx : x < 18446744073709551616) (hy : y < 18446744073709551616) (h : mulm c x = mulm c y) : x = y := by
  have key : ∀ z, z < 18446744073709551616 → mulm i (mulm c z) = z := fun z hz => by
    unfold mulm
    rw [Nat.mod_mul_mod, Nat.mul_assoc, Nat.mul_mod, hi, Nat.mul_one, Nat.mod_mod, Nat.mod_eq_of_lt hz]
  rw [← key x hx, ← key y hy, h]

def scr (x : Nat) : Nat := lay (mulm 14181476777654086739 (lay (mulm 18397679294719823053 (lay x))))
theorem scr_lt {x : Nat} : scr x < 18446744073709551616 := lay_lt (mulm_lt _ _)
theorem scr_inj {x y : Nat} (hx : x < 18446744073709551616) (hy : y < 18446744073709551616) (h : scr x = scr y) : x = y := by
  have h1 := lay_inj (mulm_lt _ _) (mulm_lt _ _) h
  have h2 := mulm_inj (i := 11291846944257947611) (by decide) (lay_lt (mulm_lt _ _)) (lay_lt (mulm_lt _ _)) h1
  have h3 := lay_inj (mulm_lt _ _) (mulm_lt _ _) h2
  have h4 := mulm_inj (i := 5725274745694666757) (by decide) (lay_lt hx) (lay_lt hy) h3
  exact lay_inj hx hy h4

/-- The fingerprint of a pair. -/
def jn (a b : Nat) : Nat := scr ((a + mulm 11400714819323198485 (scr ((b + 1) % 18446744073709551616))) % 18446744073709551616)
theorem jn_lt {a b : Nat} : jn a b < 18446744073709551616 := scr_lt
theorem add_inj {x y k : Nat} (hx : x < 18446744073709551616) (hy : y < 18446744073709551616) (h : (x + k) % 18446744073709551616 = (y + k) % 18446744073709551616) : x = y := by omega
theorem jn_left {a b c : Nat} (ha : a < 18446744073709551616) (hc : c < 18446744073709551616) (h : jn a b = jn c b) : a = c :=
  add_inj ha hc (scr_inj (Nat.mod_lt _ (by decide)) (Nat.mod_lt _ (by decide)) h)
theorem jn_right {a b c : Nat} (hb : b < 18446744073709551616) (hc : c < 18446744073709551616) (h : jn a b = jn a c) : b = c := by
  have h1 := scr_inj (Nat.mod_lt _ (by decide)) (Nat.mod_lt _ (by decide)) h
  rw [Nat.add_comm a, Nat.add_comm a] at h1
  have h2 := add_inj (mulm_lt _ _) (mulm_lt _ _) h1
  have h3 := mulm_inj (i := 17428512612931826493) (by decide) scr_lt scr_lt h2
  have h4 := scr_inj (Nat.mod_lt _ (by decide)) (Nat.mod_lt _ (by decide)) h3
  exact add_inj hb hc h4

/-- A byte more, by FNV's step. -/
def fnv (h x : Nat) : Nat := mulm 1099511628211 (h ^^^ x)
def fnvs (h : Nat) (l : List Nat) : Nat := l.foldl fnv h
theorem fnvs_lt {h : Nat} {l : List Nat} (hh : h < 18446744073709551616) : fnvs h l < 18446744073709551616 := by
  induction l generalizing h with
  | nil => exact hh
  | cons x r ih => exact ih (mulm_lt _ _)
theorem fnvs_snoc (h : Nat) (l : List Nat) (x : Nat) : fnvs h (l ++ [x]) = fnv (fnvs h l) x := by
  unfold fnvs
  rw [List.foldl_append, List.foldl_cons, List.foldl_nil]
def fbytes (l : List Nat) : Nat := scr (fnvs 14695981039346656037 l)

/-- The fingerprint of a list, from what stands already. -/
def jns (h : Nat) (l : List Nat) : Nat := l.foldl jn h
theorem jns_lt {h : Nat} {l : List Nat} (hh : h < 18446744073709551616) : jns h l < 18446744073709551616 := by
  induction l generalizing h with
  | nil => exact hh
  | cons x r ih => exact ih jn_lt
theorem jns_snoc (h : Nat) (l : List Nat) (x : Nat) : jns h (l ++ [x]) = jn (jns h l) x := by
  unfold jns
  rw [List.foldl_append, List.foldl_cons, List.foldl_nil]
theorem jns_inj {l : List Nat} {h k : Nat} (hh : h < 18446744073709551616) (hk : k < 18446744073709551616) (e : jns h l = jns k l) : h = k := by
  induction l generalizing h k with
  | nil => exact e
  | cons x r ih => exact jn_left hh hk (ih jn_lt jn_lt e)
theorem jns_append (h : Nat) (a b : List Nat) : jns h (a ++ b) = jns (jns h a) b := List.foldl_append
def flist (l : List Nat) : Nat := jns l.length l

/-- What an element adds to the sum of a set. -/
def fel (x : Nat) : Nat := scr ((x + 11400714819323198485) % 18446744073709551616)
def fsum (s : Nat) (l : List Nat) : Nat := l.foldl (fun s x => (s + fel x) % 18446744073709551616) s
theorem fsum_lt {s : Nat} {l : List Nat} (h : s < 18446744073709551616) : fsum s l < 18446744073709551616 := by
  induction l generalizing s with
  | nil => exact h
  | cons x r ih => exact ih (Nat.mod_lt _ (by decide))
theorem fsum_snoc (s : Nat) (l : List Nat) (x : Nat) : fsum s (l ++ [x]) = (fsum s l + fel x) % 18446744073709551616 := by
  unfold fsum
  rw [List.foldl_append, List.foldl_cons, List.foldl_nil]
theorem fsum_cons (s x : Nat) (l : List Nat) : fsum s (x :: l) = fsum ((s + fel x) % 18446744073709551616) l := by
  unfold fsum
  rw [List.foldl_cons]
theorem fsum_perm {l m : List Nat} (h : l.Perm m) : ∀ s, fsum s l = fsum s m := by
  induction h with
  | nil => intro s; rfl
  | cons x _ ih => intro s; rw [fsum_cons, fsum_cons, ih]
  | swap x y l =>
    intro s
    have e : ((s + fel y) % 18446744073709551616 + fel x) % 18446744073709551616 = ((s + fel x) % 18446744073709551616 + fel y) % 18446744073709551616 := by omega
    rw [fsum_cons, fsum_cons, fsum_cons, fsum_cons, e]
  | trans _ _ ih1 ih2 => intro s; rw [ih1, ih2]
def fset (l : List Nat) : Nat := jn l.length (fsum 0 l)
theorem fset_perm {l m : List Nat} (h : l.Perm m) : fset l = fset m := by
  unfold fset
  rw [h.length_eq, fsum_perm h]
end Go.Proofs.Ytlcipcgeanipfaa
