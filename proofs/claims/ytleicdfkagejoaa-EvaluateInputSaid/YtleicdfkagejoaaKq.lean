/-
  Kq: ScanF. Walks and laws that the statement's proof is made of. No condition of its own.
-/
import Derived.Test.YtleicdfkagejoaaKa
namespace Go.Proofs.Ytleicdfkagejoaa
def z6B:Nat→Nat→z0g→Except Nat (List Tok)
 | 0,_,_=>.error 0
 | _+1,line,[]=>.ok [⟨0,line,0,[]⟩]
 | m+1,line,c :: r =>
  if c.toNat=10 then z6B m (line+1) r
  else if c.toNat=32∨c.toNat=9 then z6B m line r
  else if c.toNat=35 then z6B m line (r.dropWhile fun x=>decide (x.toNat≠10))
  else
   match rnext (c :: r) with
   | none=>.error line
   | some (k,v,n) =>
    match z6B m line (r.drop (n - 1)) with
    | .error e=>.error e
    | .ok ts=>.ok (⟨k,line,v,(c :: r).take n⟩ :: ts)
theorem z3k:∀ (m line:Nat) (l:z0g),l.length<m→z6B m line l=scan line l
 | 0,_,_,h=>by omega
 | m+1,line,[],_=>by rw [scan]; rfl
 | m+1,line,c :: r,h=>by
  have hr:r.length<m:=by simp at h; omega
  have hd:(r.dropWhile fun x=>decide (x.toNat≠10)).length<m:=by
   have:=List.Sublist.length_le (List.dropWhile_sublist (fun x:UInt8=>decide (x.toNat≠10)) (l:=r))
   omega
  rw [scan,z6B]
  split
  ·exact z3k m _ r hr
  ·split
   ·exact z3k m _ r hr
   ·split
    ·exact z3k m _ _ hd
    ·cases rnext (c :: r) with
     | none=>rfl
     | some q =>
      obtain ⟨k,v,n⟩:=q
      simp only []
      rw [z3k m line (r.drop (n - 1)) (by simp; omega)]
      cases scan line (r.drop (n - 1)) <;> rfl
end Go.Proofs.Ytleicdfkagejoaa
