/-
  One more list of masks. Conditions: as each theorem says.
-/
import Derived.Test.YtfjfgjncmliadaaDoorSylRef2
import Derived.Laws.AppendOwnNone
namespace Go.Proofs.YtfjfgjncmliadaaDoor
open Go.RowKit
open AlphPlain

theorem Tryd.infoUs : (Tryd.prog.info? 33).map (fun i => (i.zero, i.size, i.bytes)) = some (some (.slice none 0 0), 1, 24) := by kernel_rfl
theorem onB_more (ls : List Lt) (os : List Mk) (x : Mk) (rs : List Int) : onB ls (masks (os ++ [x])) rs = (onB ls (masks os) rs || onB ls (masks [x]) rs) := by
  unfold onB masks
  rw [List.map_append, List.any_append]
  cases decide (rs.length = 0) <;> cases (os.map Mk.ms).any (fun ms => fitB ls ms rs) <;> simp
theorem news_of {w : World} {a : Addr} {n c : Nat} {os : List Mk} (h : Rw Mk.enc w (some a) n c os) : ∀ j u, (os.map Mk.enc)[j]? = some u → w.cell? (a.add j) = some u := by
  intro j u hj
  rw [List.getElem?_map] at hj
  obtain ⟨x, hx, rfl⟩ := Option.map_eq_some_iff.1 hj
  obtain ⟨b, off, hA, h1⟩ := h.cells j x hx
  cases hA
  rw [Addr.add_lit]
  exact h1
theorem enc_one (l : List Mk) : ∀ u ∈ l.map Mk.enc, u.oneCell' = true := map_one (fun _ => rfl) l
theorem ons_more {w : World} {V : Value} {n : Nat} {os : List Mk} {base : Nat} {x : Mk} (h : w.ownsRow base 33 1 V (n + 1) ((os ++ [x]).map Mk.enc)) (hn : os.length = n) (ho : ∀ y ∈ os, Rw vU w y.a y.n y.c y.ms) (hx : Rw vU w x.a x.n x.c x.ms) :
    ∃ A c, V = .slice A (n + 1) c ∧ Ons w A (n + 1) c (os ++ [x]) := by
  obtain ⟨A, c, e, r⟩ := Rw.of_row (enc := Mk.enc) (l := os ++ [x]) h (by simp [hn])
  refine ⟨A, c, e, r, fun y hy => ?_⟩
  rcases List.mem_append.1 hy with hy | hy
  · exact ho y hy
  · rw [List.mem_singleton.1 hy]
    exact hx
/-- append onto a row of the call's own, from whatever slice. -/
theorem wpList_append_any {P : Program} {w : World} {ops : Array Oper} {rest : List Oper} {o : Oper} {a : Act} {Q : Exit → Act → World → Prop} (hgd : o.guard = none) (s x : Operand) (t : TypeId)
    (ho : o.op = .call { callee := .builtin .append, args := #[s, x], argTypes := #[t, t] })
    (base : Nat) (e : TypeId) (i : TypeInfo) (z : Value) (size bytes : Nat) (ht : P.underlying t = some (.slice e)) (hi : P.info? e = some i) (hz : i.zero = some z)
    (hsize : i.size = size) (hby : i.bytes = bytes) (hzs : z.cells.size = size) (hsz : 0 < size)
    (v : Value) (n : Nat) (xs : List Value) (hs : a.eval s = v) (hown : w.ownsRow base e size v n xs)
    (ao : Option Addr) (m c : Nat) (news : List Value) (hx : a.eval x = .slice ao m c) (hl : news.length = m * size) (hno : ao = none → m = 0 ∧ c = 0)
    (hnews : ∀ ad, ao = some ad → ∀ j u, news[j]? = some u → w.cell? (ad.add j) = some u) (h1 : ∀ u ∈ news, u.oneCell' = true)
    (h63 : n + m ≤ maxLen) (hbytes : (n + m) * bytes ≤ 140737488355328) (hbase : base ≤ w.heap.size)
    (h : ∀ v' w', w'.ownsRow base e size v' (n + m) (xs ++ news) → w.grownBy w' v.ownBlock → wpList P ops Q rest (a.put o.dst v') w') : wpList P ops Q (o :: rest) a w := by
  cases ao with
  | some ad => exact wpList_append_own w hgd s x t ho base e i z size bytes ht hi hz hsize hby hzs hsz v n xs hs hown ad m c news hx hl (hnews ad rfl) h1 h63 hbytes hbase fun v' w' a1 a2 _ => h v' w' a1 a2
  | none =>
    obtain ⟨rfl, rfl⟩ := hno rfl
    have hn : news = [] := List.length_eq_zero_iff.1 (by omega)
    subst hn
    exact wpList_append_own_none hgd s x t ho base e i size ht hi v n xs hs hown hx (h v w (by simpa using hown) (World.grownBy.refl _ _))
end Go.Proofs.YtfjfgjncmliadaaDoor
