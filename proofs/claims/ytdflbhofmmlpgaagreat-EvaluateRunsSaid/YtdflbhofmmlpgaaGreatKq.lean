/-
  Kq: ScanF. Part of the proof. No condition.
-/
import Derived.Test.YtdflbhofmmlpgaaGreatKa
set_option maxRecDepth 100000
set_option maxHeartbeats 8000000
namespace Go.Proofs.YtdflbhofmmlpgaaGreat
def z6H:Nat->Nat->z0e->Except Nat (List Tok)
 | 0,_,_=>.error 0
 | _+1,line,[]=>.ok [⟨0,line,0,[]⟩]
 | m+1,line,c :: r =>
  if c.toNat=10 then z6H m (line+1) r
  else if c.toNat=32\/c.toNat=9 then z6H m line r
  else if c.toNat=35 then z6H m line (r.dropWhile fun x=>decide (x.toNat≠10))
  else
   match rnext (c :: r) with
   | none=>.error line
   | some (k,v,n) =>
    match z6H m line (r.drop (n - 1)) with
    | .error e=>.error e
    | .ok ts=>.ok (⟨k,line,v,(c :: r).take n⟩ :: ts)
theorem z39:∀ (m line:Nat) (l:z0e),l.length<m->z6H m line l=scan line l
 | 0,_,_,h=>by omega
 | m+1,line,[],_=>by rw [scan]; rfl
 | m+1,line,c :: r,h=>by
  have hr:r.length<m:=by simp at h; omega
  have hd:(r.dropWhile fun x=>decide (x.toNat≠10)).length<m:=by
   have:=List.Sublist.length_le (List.dropWhile_sublist (fun x:UInt8=>decide (x.toNat≠10)) (l:=r));omega
  rw [scan,z6H];split
  ·exact z39 m _ r hr
  ·split
   ·exact z39 m _ r hr
   ·split
    ·exact z39 m _ _ hd
    ·cases rnext (c :: r) with
     | none=>rfl
     | some q =>
      obtain ⟨k,v,n⟩:=q;simp only [];rw [z39 m line (r.drop (n - 1)) (by simp; omega)];cases scan line (r.drop (n - 1)) <;> rfl
end Go.Proofs.YtdflbhofmmlpgaaGreat
