/-
  The reference's join; appends to a row of strings. Conditions: the slices hold the lists, which are short.
-/
import Derived.Test.YtdehghmpfkhljaaDoorNumCmp
import Derived.Laws.AppendOwnNone
namespace Go.Proofs.YtdehghmpfkhljaaDoor
open Go.RowKit
open NumPlain

theorem news_of {w : World} {a : Addr} {n c : Nat} {l : List BA} (h : Rw sV w (some a) n c l) : ∀ j u, (l.map sV)[j]? = some u → w.cell? (a.add j) = some u := by
  intro j u hj
  rw [List.getElem?_map] at hj
  obtain ⟨x, hx, rfl⟩ := Option.map_eq_some_iff.1 hj
  obtain ⟨b, off, hA, h1⟩ := h.cells j x hx
  cases hA
  rw [Addr.add_lit]
  exact h1
theorem wpList_append_any {P : Program} {w : World} {ops : Array Oper} {rest : List Oper} {o : Oper} {a : Act} {Q : Exit → Act → World → Prop} (hgd : o.guard = none) (s x : Operand) (t : TypeId)
    (ho : o.op = .call { callee := .builtin .append, args := #[s, x], argTypes := #[t, t] })
    (base : Nat) (e : TypeId) (i : TypeInfo) (z : Value) (size bytes : Nat) (ht : P.underlying t = some (.slice e)) (hi : P.info? e = some i) (hz : i.zero = some z)
    (hsize : i.size = size) (hby : i.bytes = bytes) (hzs : z.cells.size = size) (hsz : 0 < size)
    (v : Value) (n : Nat) (xs : List Value) (hs : a.eval s = v) (hown : w.ownsRow base e size v n xs)
    (ao : Option Addr) (m c : Nat) (news : List Value) (hx : a.eval x = .slice ao m c) (hl : news.length = m * size) (hno : ao = none → m = 0 ∧ c = 0)
    (hnews : ∀ ad, ao = some ad → ∀ j u, news[j]? = some u → w.cell? (ad.add j) = some u) (h1 : ∀ u ∈ news, u.oneCell' = true)
    (h63 : n + m ≤ maxLen) (hbytes : (n + m) * bytes ≤ 140737488355328) (hbase : base ≤ w.heap.size)
    (h : ∀ v' w', w'.ownsRow base e size v' (n + m) (xs ++ news) → w.grownBy w' v.ownBlock → wpList P ops Q rest (a.put o.dst v') w') : wpList P ops Q (o :: rest) a w := by
  cases ao with
  | some ad => exact wpList_append_own w hgd s x t ho base e i z size bytes ht hi hz hsize hby hzs hsz v n xs hs hown ad m c news hx hl (hnews ad rfl) h1 h63 hbytes hbase fun v' w' a1 a2 _ => h v' w' a1 a2
  | none =>
    obtain ⟨rfl, rfl⟩ := hno rfl
    have hn : news = [] := List.length_eq_zero_iff.1 (by omega)
    subst hn
    exact wpList_append_own_none hgd s x t ho base e i size ht hi v n xs hs hown hx (h v w (by simpa using hown) (World.grownBy.refl _ _))
theorem infoS_parts : ∃ i, Tryd.prog.info? 9 = some i ∧ i.zero = some (.string ⟨#[]⟩) ∧ i.size = 1 ∧ i.bytes = 16 := by
  have h := Tryd.infoS
  cases hi : Tryd.prog.info? 9 with
  | none => rw [hi] at h; cases h
  | some i =>
    rw [hi] at h
    have h2 : (i.zero, i.size, i.bytes) = (some (.string ⟨#[]⟩), 1, 16) := by simpa using h
    exact ⟨i, rfl, congrArg Prod.fst h2, congrArg (fun p => p.2.1) h2, congrArg (fun p => p.2.2) h2⟩

set_option maxRecDepth 100000 in
set_option maxHeartbeats 1600000 in
theorem join_any (A : Option Addr) (n c : Nat) (l : List BA) (B : Option Addr) (m d : Nat) (k : List BA) (w : World) (ha : Rw sV w A n c l) (hb : Rw sV w B m d k) (hnm : n + m ≤ 2000) :
    Calls Tryd.prog 45 #[.slice A n c, .slice B m d] w (SlPost w (l ++ k)) := by
  obtain ⟨i0, hi, hz0, hz1, hz2⟩ := infoS_parts
  have own0 : (w.alloc (.cells #[] 9)).ownsRow w.heap.size 9 1 (.slice (some ⟨w.heap.size, 0, none⟩) 0 0) 0 [] := World.ownsRow_lit w #[] 0 (Nat.le_refl _) (by unfold maxLen; omega) rfl
  have HO0 := Lib.hid own0
  have A0 : Aft w (w.alloc (.cells #[] 9)) := (Aft.refl w).alloc _
  have HL := Lib.hid ha.len
  have HK := Lib.hid hb.len
  have HR0 := Lib.hid (ha.aft A0)
  have HB := Lib.hid hb
  have hs0 := A0.size
  have HA0 := Lib.hid A0
  clear own0 ha hb A0
  go_enter Tryd.func45, Tryd.ntmps45
  go_wp2_with (first
    | (at_builtin; refine wpList_append_any rfl _ _ 22 rfl w.heap.size 9 i0 _ 1 16 Tryd.underlying22 hi hz0 hz1 hz2 rfl (by decide) _ _ _ rfl HO0.out A n c (l.map sV) rfl (by rw [List.length_map, HL.out, Nat.mul_one]) (fun e => by have h1 := (HR0.out).nl e; have h2 := (HR0.out).le; omega) (fun ad e => by subst e; exact news_of (HR0.out)) (map_one (fun _ => rfl) _) (by unfold maxLen; omega) (by omega) (by first | omega | (simp; done) | (simp; omega)) ?_; intro v1 w3 own1 grow1; have A3 : Aft w w3 := HA0.out.grown grow1 (fun k e => (HO0.out.lt k e).1); have hs3 := A3.size; have HO1 := Lib.hid own1; have HB1 := Lib.hid (HB.out.aft A3); have HA1 := Lib.hid A3; clear own1 grow1 A3)
    | (at_builtin; refine wpList_append_any rfl _ _ 22 rfl w.heap.size 9 i0 _ 1 16 Tryd.underlying22 hi hz0 hz1 hz2 rfl (by decide) _ _ _ rfl HO1.out B m d (k.map sV) rfl (by rw [List.length_map, HK.out, Nat.mul_one]) (fun e => by have h1 := (HB1.out).nl e; have h2 := (HB1.out).le; omega) (fun ad e => by subst e; exact news_of (HB1.out)) (map_one (fun _ => rfl) _) (by unfold maxLen; omega) (by omega) (by first | omega | (simp; done) | (simp; omega)) ?_; intro v2 w4 own2 grow2; have A4 : Aft w w4 := HA1.out.grown grow2 (fun k e => (HO1.out.lt k e).1); obtain ⟨X2, q2, rfl, hX2⟩ := Rw.of_row (enc := sV) (l := l ++ k) (by rw [List.map_append]; simpa using own2) (by rw [List.length_append, HL.out, HK.out]); have HX2 := Lib.hid hX2; have HA2 := Lib.hid A4; clear own2 grow2 hX2 A4))
  go_ret
  exact ⟨⟨_, _, _, rfl, HX2.out⟩, HA2.out⟩
end Go.Proofs.YtdehghmpfkhljaaDoor
