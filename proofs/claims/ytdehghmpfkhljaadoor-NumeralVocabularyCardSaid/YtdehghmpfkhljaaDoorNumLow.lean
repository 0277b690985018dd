/-
  The closure of speller at every number up to 9999. Conditions: the system is valid and lies where the closure looks.
-/
import Derived.Test.YtdehghmpfkhljaaDoorNumMul
namespace Go.Proofs.YtdehghmpfkhljaaDoor
open Go.RowKit
open NumPlain

theorem W_high {x : Nm} {k n : Nat} (h : ¬ n < bs x ^ (k + 1)) : W x (k + 1) n = if 0 < x.sub ∧ bs x ^ (k + 1) ≤ n % bs x ^ (k + 1) + x.sub.toNat ∧ n / bs x ^ (k + 1) + 1 < bs x then col [dig x (bs x ^ (k + 1) - n % bs x ^ (k + 1)), [x.le], col [headW x (n / bs x ^ (k + 1) + 1) k]]
    else if n % bs x ^ (k + 1) = 0 then col [headW x (n / bs x ^ (k + 1)) k]
    else if x.sf then col [W x k (n % bs x ^ (k + 1)), [x.jo], headW x (n / bs x ^ (k + 1)) k]
    else col [headW x (n / bs x ^ (k + 1)) k, [x.jo], W x k (n % bs x ^ (k + 1))] := by rw [W, if_neg h]

theorem three_at {w : World} {H : Nat} {X Y Z : Option Addr} {n c m d u v : Nat} {l k j : List BA} (hH : w.heap.size = H) (h : Rw sV w X n c l) (g : Rw sV w Y m d k) (f : Rw sV w Z u v j) (t : TypeId) : Lls (w.alloc (.cells #[.slice X n c, .slice Y m d, .slice Z u v] t)) (some ⟨H, 0, none⟩) 3 3 [⟨X, n, c, l⟩, ⟨Y, m, d, k⟩, ⟨Z, u, v, j⟩] := by
  subst hH
  exact three_lls h g f t
theorem cell1 (w : World) (v : Value) (t : TypeId) : (w.alloc (.cells #[v] t)).cell? ⟨w.heap.size, 0, none⟩ = some v := by simp
theorem row1 {w : World} {H : Nat} {s : BA} (h : w.cell? ⟨H, 0, none⟩ = some (.string s)) : Rw sV w (some ⟨H, 0, none⟩) 1 1 [s] :=
  ⟨rfl, Nat.le_refl _, by omega, fun e => (by cases e), fun i u hi => by
    match i, hi with
    | 0, hi => simp at hi; subst hi; exact ⟨H, 0, rfl, h⟩
    | i + 1, hi => simp at hi⟩
/-- What is asked of the levels below. -/
def Low (x : Nm) (k : Nat) : Prop := ∀ n, n < bs x ^ (k + 1) → ∀ (Bs Bw : Nat) (w : World), Spl w Bs Bw x → Calls Tryd.prog 50 #[.int .i64 (n : Int), .pointer (some ⟨Bs, 0, none⟩), .pointer (some ⟨Bw, 0, none⟩)] w (SlPost w (W x k n))
end Go.Proofs.YtdehghmpfkhljaaDoor
