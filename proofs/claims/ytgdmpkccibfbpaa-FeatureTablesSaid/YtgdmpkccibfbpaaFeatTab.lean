/-
  What the walks over the tables of package feature share: which blocks a step leaves as they are ('Chg'), how a table lies in memory ('Tb'), and slices.Clone of a slice of features. Conditions: as each theorem says.
-/
import Derived.Test.YtgdmpkccibfbpaaFeatUnify
import Derived.Test.YtgdmpkccibfbpaaFeatIndex
import Derived.Test.YtgdmpkccibfbpaaRegion
import Derived.Laws.AppendOwnNone
import Derived.RangeFuncBox
import Derived.Lib.SliceRun
namespace Go.Proofs.Ytgdmpkccibfbpaa
open Go.RowKit
open FeatPlain

/-- append onto a row of the call's own, from whatever slice. -/
theorem wpList_append_any {P : Program} {w : World} {ops : Array Oper} {rest : List Oper} {o : Oper} {a : Act} {Q : Exit → Act → World → Prop} (hgd : o.guard = none) (s x : Operand) (t : TypeId)
    (ho : o.op = .call { callee := .builtin .append, args := #[s, x], argTypes := #[t, t] })
    (base : Nat) (e : TypeId) (i : TypeInfo) (z : Value) (size bytes : Nat) (ht : P.underlying t = some (.slice e)) (hi : P.info? e = some i) (hz : i.zero = some z)
    (hsize : i.size = size) (hby : i.bytes = bytes) (hzs : z.cells.size = size) (hsz : 0 < size)
    (v : Value) (n : Nat) (xs : List Value) (hs : a.eval s = v) (hown : w.ownsRow base e size v n xs)
    (ao : Option Addr) (m c : Nat) (news : List Value) (hx : a.eval x = .slice ao m c) (hl : news.length = m * size) (hno : ao = none → m = 0 ∧ c = 0)
    (hnews : ∀ ad, ao = some ad → ∀ j u, news[j]? = some u → w.cell? (ad.add j) = some u) (h1 : ∀ u ∈ news, u.oneCell' = true)
    (h63 : n + m ≤ maxLen) (hbytes : (n + m) * bytes ≤ 140737488355328) (hbase : base ≤ w.heap.size)
    (h : ∀ v' w', w'.ownsRow base e size v' (n + m) (xs ++ news) → w.grownBy w' v.ownBlock → wpList P ops Q rest (a.put o.dst v') w') : wpList P ops Q (o :: rest) a w := by
  cases ao with
  | some ad => exact wpList_append_own w hgd s x t ho base e i z size bytes ht hi hz hsize hby hzs hsz v n xs hs hown ad m c news hx hl (hnews ad rfl) h1 h63 hbytes hbase fun v' w' a1 a2 _ => h v' w' a1 a2
  | none =>
    obtain ⟨rfl, rfl⟩ := hno rfl
    have hn : news = [] := List.length_eq_zero_iff.1 (by omega)
    subst hn
    exact wpList_append_own_none hgd s x t ho base e i size ht hi v n xs hs hown hx (h v w (by simpa using hown) (World.grownBy.refl _ _))

/-- From w to w' only blocks from B on, of the types ts, were changed; new ones may have come. -/
structure Chg (ts : List TypeId) (B : Nat) (w w' : World) : Prop where
  os : w'.os = w.os
  tape : w'.tape = w.tape
  output : w'.output = w.output
  size : w.heap.size ≤ w'.heap.size
  low : ∀ k, k < B → w'.heap[k]? = w.heap[k]?
  typ : ∀ (k : Nat) (cur : Array Value) (t : TypeId), t ∉ ts → w.heap[k]? = some (.cells cur t (0, 0)) → w'.heap[k]? = some (.cells cur t (0, 0))

theorem Chg.refl (ts : List TypeId) (B : Nat) (w : World) : Chg ts B w w := ⟨rfl, rfl, rfl, Nat.le_refl _, fun _ _ => rfl, fun _ _ _ _ h => h⟩
theorem Chg.trans {ts : List TypeId} {B : Nat} {a b c : World} (h : Chg ts B a b) (k : Chg ts B b c) : Chg ts B a c :=
  ⟨k.os.trans h.os, k.tape.trans h.tape, k.output.trans h.output, Nat.le_trans h.size k.size, fun i hi => (k.low i hi).trans (h.low i hi), fun i cur t ht hi => k.typ i cur t ht (h.typ i cur t ht hi)⟩
theorem Chg.mono {ts ts' : List TypeId} {B : Nat} {a b : World} (h : Chg ts B a b) (hs : ∀ t, t ∈ ts → t ∈ ts') : Chg ts' B a b :=
  ⟨h.os, h.tape, h.output, h.size, h.low, fun i cur t ht hi => h.typ i cur t (fun e => ht (hs t e)) hi⟩
theorem Chg.of_aft {ts : List TypeId} {B : Nat} {w w' : World} (h : Aft w w') (hB : B ≤ w.heap.size) : Chg ts B w w' :=
  ⟨h.os, h.tape, h.output, h.size, fun k hk => h.block k (Nat.lt_of_lt_of_le hk hB), fun k _ _ _ hk => (h.block k (Array.getElem?_eq_some_iff.1 hk).1).trans hk⟩
theorem Chg.of_grown {ts : List TypeId} {B : Nat} {w w' : World} {row : Option Nat} (h : w.grownBy w' row) (hB : B ≤ w.heap.size) (hr : ∀ r, row = some r → B ≤ r ∧ ∀ cur t, w.heap[r]? = some (.cells cur t (0, 0)) → t ∈ ts) : Chg ts B w w' :=
  ⟨h.os, h.tape, h.output, h.size, fun k hk => h.block k (by omega) (fun e => by have := (hr k e.symm).1; omega), fun k cur t ht hk => (h.block k (Array.getElem?_eq_some_iff.1 hk).1 (fun e => ht ((hr k e.symm).2 cur t hk))).trans hk⟩
theorem Chg.box {ts : List TypeId} {B : Nat} {w w' : World} (h : Chg ts B w w') {b : Nat} {t : TypeId} {v : Value} (hb : Boxed w b t v) (ht : t ∉ ts) : Boxed w' b t v := h.typ b _ t ht hb
theorem Chg.row {ts : List TypeId} {B : Nat} {w w' : World} (h : Chg ts B w w') {base : Nat} {e : TypeId} {size : Nat} {v : Value} {n : Nat} {xs : List Value} (hr : w.ownsRow base e size v n xs) (ht : e ∉ ts) : w'.ownsRow base e size v n xs := by
  refine ⟨hr.1, ?_⟩
  rcases hr.2 with k | ⟨g, cap, cur, e1, e2, e3, e4⟩
  · exact .inl k
  · exact .inr ⟨g, cap, cur, e1, e2, h.typ g cur e ht e3, e4⟩
theorem Chg.aft0 {ts : List TypeId} {B : Nat} {w0 w w' : World} (h : Chg ts B w w') (k : Aft w0 w) (hB : w0.heap.size ≤ B) : Aft w0 w' :=
  ⟨h.os.trans k.os, h.tape.trans k.tape, h.output.trans k.output, Nat.le_trans k.size h.size, fun i hi => (h.low i (Nat.lt_of_lt_of_le hi hB)).trans (k.block i hi)⟩
theorem row_type {w : World} {base : Nat} {e : TypeId} {size : Nat} {v : Value} {n : Nat} {xs : List Value} (hr : w.ownsRow base e size v n xs) : ∀ r, v.ownBlock = some r → base ≤ r ∧ ∀ cur t, w.heap[r]? = some (.cells cur t (0, 0)) → t = e := by
  intro r hv
  rcases hr.2 with ⟨rfl, _⟩ | ⟨g, cap, cur, rfl, hb, hg, _⟩
  · cases hv
  · cases hv
    refine ⟨hb, fun cur' t h => ?_⟩
    rw [hg] at h
    cases h
    rfl
theorem row_base {w : World} {base base' : Nat} {e : TypeId} {size : Nat} {v : Value} {n : Nat} {xs : List Value} (hr : w.ownsRow base e size v n xs) (hb : base' ≤ base) : w.ownsRow base' e size v n xs := by
  refine ⟨hr.1, ?_⟩
  rcases hr.2 with k | ⟨g, cap, cur, e1, e2, e3⟩
  · exact .inl k
  · exact .inr ⟨g, cap, cur, e1, Nat.le_trans hb e2, e3⟩
theorem Chg.set {B : Nat} {w : World} {b : Nat} {t : TypeId} {v : Value} (h : Boxed w b t v) (u : Value) (hB : B ≤ b) (hw : B ≤ w.heap.size) : Chg [t] B w (w.setCell ⟨b, 0, none⟩ u) :=
  Chg.of_grown (grownBy_setCell' w b u) hw (fun r e => by
    cases e
    refine ⟨hB, fun cur t' h' => ?_⟩
    rw [show w.heap[b]? = _ from h] at h'
    cases h'
    exact List.mem_singleton.2 rfl)

/-- The features of a list that a call made. -/
def Cl (w : World) (v : Value) (fs : List Ft) : Prop := w.ownsRow 0 44 2 v fs.length (flat fs) ∧ fs.length * 32 ≤ 281474976710656
theorem Cl.chg {ts : List TypeId} {B : Nat} {w w' : World} {v : Value} {fs : List Ft} (h : Cl w v fs) (k : Chg ts B w w') (ht : 44 ∉ ts) : Cl w' v fs := ⟨k.row h.1 ht, h.2⟩
theorem Cl.sl {w : World} {v : Value} {fs : List Ft} (h : Cl w v fs) : ∃ A c, v = .slice A fs.length c ∧ Sl w A fs.length c fs := by
  rcases h.1.2 with ⟨rfl, h0⟩ | ⟨g, cap, cur, rfl, _, _, hle, _, _⟩
  · have : fs = [] := List.length_eq_zero_iff.1 h0
    subst this
    exact ⟨none, 0, rfl, Sl.nil (by omega) (fun _ => rfl)⟩
  · exact ⟨_, _, rfl, Sl.of_own h.1 rfl hle h.2⟩

abbrev En := List Ft × Int
/-- The cells of a list of entries. -/
def Ents (w : World) : List Value → List En → Prop
  | [], [] => True
  | cv :: xv :: vs, e :: es => Cl w cv e.1 ∧ xv = .int .i64 e.2 ∧ Ents w vs es
  | _, _ => False
theorem Ents.chg {ts : List TypeId} {B : Nat} {w w' : World} (k : Chg ts B w w') (ht : 44 ∉ ts) : ∀ {vs : List Value} {es : List En}, Ents w vs es → Ents w' vs es
  | [], [], _ => trivial
  | _ :: _ :: _, _ :: _, ⟨h1, h2, h3⟩ => ⟨h1.chg k ht, h2, Ents.chg k ht h3⟩
  | [], _ :: _, h => h.elim
  | [_], [], h => h.elim
  | [_], _ :: _, h => h.elim
  | _ :: _ :: _, [], h => h.elim
theorem Ents.snoc {w : World} {cv : Value} {e : En} (h : Cl w cv e.1) : ∀ {vs : List Value} {es : List En}, Ents w vs es → Ents w (vs ++ [cv, .int .i64 e.2]) (es ++ [e])
  | [], [], _ => ⟨h, rfl, trivial⟩
  | _ :: _ :: _, _ :: _, ⟨h1, h2, h3⟩ => ⟨h1, h2, Ents.snoc h h3⟩
  | [], _ :: _, h => h.elim
  | [_], [], h => h.elim
  | [_], _ :: _, h => h.elim
  | _ :: _ :: _, [], h => h.elim
theorem Ents.at_ {w : World} : ∀ {vs : List Value} {es : List En} {i : Nat} {e : En}, Ents w vs es → es[i]? = some e → ∃ cv, vs[i * 2]? = some cv ∧ vs[i * 2 + 1]? = some (.int .i64 e.2) ∧ Cl w cv e.1
  | cv :: _ :: _, _ :: _, 0, e, ⟨h1, h2, _⟩, h => by simp at h; subst h; subst h2; exact ⟨cv, rfl, rfl, h1⟩
  | _ :: _ :: _, _ :: _, i + 1, e, ⟨_, _, h3⟩, h => by
    obtain ⟨cv, a, b, c⟩ := Ents.at_ h3 (by simpa using h)
    rw [show (i + 1) * 2 = i * 2 + 1 + 1 from by omega]
    exact ⟨cv, a, b, c⟩
  | [], [], _, _, _, h => by simp at h
  | [], _ :: _, _, _, h, _ => h.elim
  | [_], [], _, _, h, _ => h.elim
  | [_], _ :: _, _, _, h, _ => h.elim
  | _ :: _ :: _, [], _, _, h, _ => h.elim

/-- The value v is a slice of the entries es. -/
def EnRow (w : World) (B : Nat) (v : Value) (es : List En) : Prop := ∃ vs, w.ownsRow B 61 2 v es.length vs ∧ Ents w vs es
theorem EnRow.chg {ts : List TypeId} {B B' : Nat} {w w' : World} {v : Value} {es : List En} (h : EnRow w B v es) (k : Chg ts B' w w') (h1 : 44 ∉ ts) (h2 : 61 ∉ ts) : EnRow w' B v es := by
  obtain ⟨vs, a, b⟩ := h
  exact ⟨vs, k.row a h2, b.chg k h1⟩
/-- Block T is a table of the entries es. -/
def Tb (w : World) (B T : Nat) (es : List En) : Prop := ∃ v, Boxed w T 58 v ∧ EnRow w B v es
theorem Tb.chg {ts : List TypeId} {B B' T : Nat} {w w' : World} {es : List En} (h : Tb w B T es) (k : Chg ts B' w w') (h1 : 44 ∉ ts) (h2 : 61 ∉ ts) (h3 : 58 ∉ ts) : Tb w' B T es := by
  obtain ⟨v, a, b⟩ := h
  exact ⟨v, k.box a h3, b.chg k h1 h2⟩

set_option maxRecDepth 100000 in
set_option maxHeartbeats 800000 in
theorem clone_any (A : Option Addr) (n c : Nat) (xs : List Ft) (w : World) (ha : Sl w A n c xs) (hb : n * 32 ≤ 140737488355328) :
    Calls Try.prog 24 #[.slice A n c] w (fun e w' => ∃ v, e = .returned v ∧ w'.ownsRow w.heap.size 44 2 v n (flat xs) ∧ Aft w w') := by
  have hlen := Lib.hid ha.len
  obtain ⟨i0, hi, hz0, hz1, hz2⟩ := info_parts Try.infoF
  have qn : ∀ (w : World) (a : Option Addr) (n c n' c' : Nat), (binOp .eql 29 (.slice a n c) (.slice none n' c')).run Try.prog w = .ok (.bool a.isNone) w := fun w a n c n' c' => Lib.run_eql_slice_nil w _ _ a n c n' c' Try.underlying29
  cases A with
  | none =>
    obtain rfl : c = 0 := ha.nl rfl
    obtain rfl : n = 0 := by have := ha.le; omega
    have hx := Lib.hid (List.length_eq_zero_iff.1 hlen.out)
    go_enter Try.func24, Try.ntmps24
    go_wp2
    go_ret
    exact ⟨_, rfl, by rw [hx.out]; exact World.ownsRow_nil _ _ _ _, Aft.refl _⟩
  | some x =>
    have own0 : (w.alloc (.cells #[] 44)).ownsRow w.heap.size 44 2 (.slice (some ⟨w.heap.size, 0, none⟩) 0 0) 0 [] := World.ownsRow_lit w #[] 0 (Nat.le_refl _) (by unfold maxLen; omega) rfl
    go_enter Try.func24, Try.ntmps24
    go_wp2_with (at_builtin; refine wpList_append_any rfl _ _ 29 rfl w.heap.size 44 i0 _ 2 32 Try.underlying29 hi hz0 hz1 hz2 rfl (by decide) _ _ _ rfl own0 (some x) n c (flat xs) rfl (by rw [flat_length, hlen.out]) (fun e => by cases e) (ha.aft ((Aft.refl w).alloc _)).flatCells (flat_one _) (by unfold maxLen; omega) (by omega) (by simp) ?_; intro v0 w1 own1 grow1)
    have own1' : w1.ownsRow w.heap.size 44 2 v0 n (flat xs) := by rw [Nat.zero_add, List.nil_append] at own1; exact own1
    have A1 : Aft w w1 := ((Aft.refl w).alloc _).grown grow1 (fun r hr => (own0.lt r hr).1)
    clear own0 own1 grow1
    go_wp2
    go_ret
    exact ⟨_, rfl, own1', A1⟩
end Go.Proofs.Ytgdmpkccibfbpaa
