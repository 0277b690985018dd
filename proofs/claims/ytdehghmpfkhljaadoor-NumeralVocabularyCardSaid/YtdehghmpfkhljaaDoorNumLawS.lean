/-
  An append within a region that draws its order. Conditions: as each theorem says.
-/
import Derived.Test.YtdehghmpfkhljaaDoorNumLawP
import Derived.Test.YtdehghmpfkhljaaDoorRegion
namespace Go.Proofs.YtdehghmpfkhljaaDoor
open Go.RowKit
open NumPlain

theorem wp_append_any {P : Program} {w : World} {o : Oper} {a : Act} {K : Act → World → Prop} {Q : Exit → Act → World → Prop} (s x : Operand) (t : TypeId)
    (ho : o.op = .call { callee := .builtin .append, args := #[s, x], argTypes := #[t, t] })
    (base : Nat) (e : TypeId) (i : TypeInfo) (z : Value) (size bytes : Nat) (ht : P.underlying t = some (.slice e)) (hi : P.info? e = some i) (hz : i.zero = some z)
    (hsize : i.size = size) (hby : i.bytes = bytes) (hzs : z.cells.size = size) (hsz : 0 < size)
    (v : Value) (n : Nat) (xs : List Value) (hs : a.eval s = v) (hown : w.ownsRow base e size v n xs)
    (ao : Option Addr) (m c : Nat) (news : List Value) (hx : a.eval x = .slice ao m c) (hl : news.length = m * size) (hno : ao = none → m = 0 ∧ c = 0)
    (hnews : ∀ ad, ao = some ad → ∀ j u, news[j]? = some u → w.cell? (ad.add j) = some u) (h1 : ∀ u ∈ news, u.oneCell' = true)
    (h63 : n + m ≤ maxLen) (hbytes : (n + m) * bytes ≤ 140737488355328) (hbase : base ≤ w.heap.size)
    (h : ∀ v' w', w'.ownsRow base e size v' (n + m) (xs ++ news) → w.grownBy w' v.ownBlock → K (a.put o.dst v') w') : o.wp P a w K Q := by
  cases ao with
  | some ad => exact wp_append_own w s x t ho base e i z size bytes ht hi hz hsize hby hzs hsz v n xs hs hown ad m c news hx hl (hnews ad rfl) h1 h63 hbytes hbase fun v' w' a1 a2 _ => h v' w' a1 a2
  | none =>
    obtain ⟨rfl, rfl⟩ := hno rfl
    have hn : news = [] := List.length_eq_zero_iff.1 (by omega)
    subst hn
    have hrun := run_append_owned_none (P := P) (w := w) base t o.type e i size ht hi v n xs hown
    unfold Oper.wp
    simp [execOp, ho, resolve, invoke, builtin, hs, hx, hrun, Result.andThen]
    exact h v w (by simpa using hown) (World.grownBy.refl _ _)
theorem own_new {a W : World} (_ : Aft a (W.alloc (.cells #[] 9))) : (W.alloc (.cells #[] 9)).ownsRow W.heap.size 9 1 (.slice (some ⟨W.heap.size, 0, none⟩) 0 0) 0 [] := World.ownsRow_lit W #[] 0 (Nat.le_refl _) (by unfold maxLen; omega) rfl
theorem le_new {a W : World} {s : BA} (_ : Aft a (W.alloc (.cells #[.string s] 9))) : (W.alloc (.cells #[.string s] 9)).cell? ⟨W.heap.size, 0, none⟩ = some (.string s) := by simp
theorem own_newD {a W : World} (_ : Aft a (W.alloc (.cells #[] 9)).drew) : (W.alloc (.cells #[] 9)).drew.ownsRow W.heap.size 9 1 (.slice (some ⟨W.heap.size, 0, none⟩) 0 0) 0 [] := row_aft (own_new (a := W) ((Aft.refl W).alloc _)) (Below.drew (Aft.refl _))
theorem le_newD {a W : World} {s : BA} (_ : Aft a (W.alloc (.cells #[.string s] 9)).drew) : (W.alloc (.cells #[.string s] 9)).drew.cell? ⟨W.heap.size, 0, none⟩ = some (.string s) := Aft.cell (Below.drew (Aft.refl _)) (le_new (a := W) ((Aft.refl W).alloc _))
theorem own_weak {w : World} {b base : Nat} {e : TypeId} {s : Nat} {v : Value} {n : Nat} {xs : List Value} (h : w.ownsRow base e s v n xs) (hle : b ≤ base) : w.ownsRow b e s v n xs :=
  ⟨h.1, h.2.imp id (fun ⟨g, cap, cur, h1, h2, h3⟩ => ⟨g, cap, cur, h1, Nat.le_trans hle h2, h3⟩)⟩
/-- A cell of another block stands when a row grows. -/
theorem grown_cell {w w' : World} {row : Option Nat} (g : w.grownBy w' row) {b o : Nat} {u : Value} (hc : w.cell? ⟨b, o, none⟩ = some u) (hne : some b ≠ row) : w'.cell? ⟨b, o, none⟩ = some u :=
  (World.cell?_of_block (w := w) (w' := w') (a := ⟨b, o, none⟩) (g.block b (World.block_lt_of_cell? w _ hc) hne)).trans hc
theorem sub_facts {x : Nm} (hL : Len x) : x.sub < 10 ∧ 10 ≤ x.base ∧ x.base ≤ 20 ∧ x.base = ((bs x : Nat) : Int) := by
  have h := hL.ok.sub1
  have hb := hL.ok.base
  refine ⟨by omega, by omega, by omega, ?_⟩
  unfold bs
  rcases hb with h | h <;> rw [h] <;> rfl
end Go.Proofs.YtdehghmpfkhljaaDoor
