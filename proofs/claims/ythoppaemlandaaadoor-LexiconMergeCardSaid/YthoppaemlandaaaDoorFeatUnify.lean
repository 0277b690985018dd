/-
  Unify returns the unification of two lists of features. Condition: the slices hold the features.
-/
import Derived.Test.YthoppaemlandaaaDoorFeatSame
import Derived.Test.YthoppaemlandaaaDoorShelf
import Derived.OwnWalk
import Derived.Deep.RegionLaw
namespace Go.Proofs.YthoppaemlandaaaDoor
open Go.RowKit
open FeatPlain

/-- append within the capacity, as one step of a region that draws its order. -/
theorem step_append_fits {P : Program} {ops : Array Oper} {o : Oper} {a : Act} {w : World} {K : Act → World → Prop} {Q : Exit → Act → World → Prop} {E : Prop}
    (hg : o.guard = none) (s x : Operand) (t : TypeId) (hop : o.op = Op.call { callee := Callee.builtin Builtin.append, args := #[s, x], argTypes := #[t, t] })
    (base : Nat) (e : TypeId) (i : TypeInfo) (size : Nat) (h1 : P.underlying t = some (.slice e)) (h2 : P.info? e = some i) (h4 : i.size = size)
    (g k cap : Nat) (xs : List Value) (hs : a.eval s = .slice (some ⟨g, 0, none⟩) k cap) (hown : w.ownsRow base e size (.slice (some ⟨g, 0, none⟩) k cap) k xs)
    (ad : Addr) (m c : Nat) (news : List Value) (hx : a.eval x = .slice (some ad) m c) (hn : news.length = m * size)
    (hc : ∀ j u, news[j]? = some u → w.cell? (ad.add j) = some u) (h1c : ∀ u ∈ news, u.oneCell' = true) (b1 : k + m ≤ cap)
    (hK : ∀ w', w'.ownsRow base e size (.slice (some ⟨g, 0, none⟩) (k + m) cap) (k + m) (xs ++ news) → w.grownBy w' (some g) → K (a.put o.dst (.slice (some ⟨g, 0, none⟩) (k + m) cap)) w') :
    if Region.wanted o (yielded ops a.tmps) = true then Oper.wp P o a w K Q else E := by
  have hw : Region.wanted o (yielded ops a.tmps) = true := by simp [Region.wanted, hg]
  rw [if_pos hw]
  obtain ⟨w', hrun, r1, r2⟩ := run_append_fits (P := P) w base t o.type e i size h1 h2 h4 g k cap xs hown ad m c news hn hc h1c b1
  unfold Oper.wp
  simp [execOp, hop, resolve, invoke, builtin, hs, hx, hrun, Result.andThen]
  exact hK w' r1 r2

/-- The cells of a list of features. -/
def flat : List Ft → List Value
  | [] => []
  | f :: l => .string f.1 :: .string f.2 :: flat l

theorem flat_append : ∀ a b : List Ft, flat (a ++ b) = flat a ++ flat b
  | [], _ => rfl
  | f :: a, b => by simp [flat, flat_append a b]
theorem flat_length : ∀ a : List Ft, (flat a).length = a.length * 2
  | [] => rfl
  | f :: a => by simp [flat, flat_length a]; omega
theorem flat_get : ∀ (a : List Ft) (i : Nat) (f : Ft), a[i]? = some f → (flat a)[i * 2]? = some (.string f.1) ∧ (flat a)[i * 2 + 1]? = some (.string f.2)
  | x :: a, 0, f, h => by simp at h; subst h; exact ⟨rfl, rfl⟩
  | x :: a, i + 1, f, h => by
    have := flat_get a i f (by simpa using h)
    rw [show (i + 1) * 2 = i * 2 + 1 + 1 from by omega]
    exact ⟨this.1, this.2⟩
theorem flat_one : ∀ (a : List Ft), ∀ u ∈ flat a, u.oneCell' = true
  | [], u, h => by cases h
  | f :: a, u, h => by
    simp only [flat, List.mem_cons] at h
    rcases h with rfl | rfl | h
    · rfl
    · rfl
    · exact flat_one a u h

theorem Sl.of_own {w : World} {base g n cap : Nat} {fs : List Ft} (h : w.ownsRow base 57 2 (.slice (some ⟨g, 0, none⟩) n cap) n (flat fs)) (hl : fs.length = n) (hle : n ≤ cap) (hm : n * 32 ≤ 281474976710656) :
    Sl w (some ⟨g, 0, none⟩) n cap fs :=
  ⟨hl, hle, hm, by rcases h.2 with ⟨e, _⟩ | ⟨g', cap', cur, e, _, _, _, hc, _⟩; (· cases e); (· cases e; unfold maxLen at hc; omega), fun e => (by cases e), fun i f hi => by
    have hlt : i < n := by have := (List.getElem?_eq_some_iff.1 hi).1; omega
    have hx := flat_get fs i f hi
    refine ⟨g, 0, rfl, ?_, ?_⟩
    · rw [Nat.zero_add, h.cellAt _ (by omega)]; exact hx.1
    · rw [Nat.zero_add, h.cellAt _ (by omega)]; exact hx.2⟩

theorem Tryd.infoF : (Tryd.prog.info? 57).map (fun i => (i.zero, i.size, i.bytes)) = some (some (.agg #[.string ByteArray.empty, .string ByteArray.empty]), 2, 32) := by kernel_rfl

theorem one_cells (w : World) (f : Ft) : ∀ j u, (flat [f])[j]? = some u → (w.alloc (.cells #[.string f.1, .string f.2] 57)).cell? ((⟨w.heap.size, 0, none⟩ : Addr).add j) = some u := by
  intro j u hj
  match j, hj with
  | 0, hj => simp [flat] at hj; subst hj; simp [Addr.add]
  | 1, hj => simp [flat] at hj; subst hj; simp [Addr.add]
  | j + 2, hj => simp [flat] at hj

def UnifyPost (w : World) (r : Option (List Ft)) (e : Ending) (w' : World) : Prop :=
  Aft w w' ∧ match r with
  | none => e = .returned (.tuple #[.slice none 0 0, .bool false])
  | some u => ∃ A n c, e = .returned (.tuple #[.slice A n c, .bool true]) ∧ Sl w' A n c u

/-- What a round of Unify's loop keeps. -/
structure URel (w : World) (xs ys : List Ft) (cap : Nat) (v0 v1 v6 : Value) (wr : World) (A : Option Addr) (n c : Nat) (xs' : List Ft) (B : Option Addr) (m d : Nat) (ys' : List Ft) (k : Nat) (out : List Ft) : Prop where
  e0 : v0 = .slice A n c
  e1 : v1 = .slice B m d
  e6 : v6 = .slice (some ⟨w.heap.size, 0, none⟩) k cap
  ha : Sl wr A n c xs'
  hb : Sl wr B m d ys'
  ca : ∀ b off, A = some ⟨b, off, none⟩ → 0 < n → b < w.heap.size
  cb : ∀ b off, B = some ⟨b, off, none⟩ → 0 < m → b < w.heap.size
  own : wr.ownsRow w.heap.size 57 2 (.slice (some ⟨w.heap.size, 0, none⟩) k cap) k (flat out)
  len : out.length = k
  room : k + n + m ≤ cap
  eq : unify xs ys = (unify xs' ys').map (out ++ ·)
  aft : Aft w wr

def URelEx (w : World) (xs ys : List Ft) (cap : Nat) (v0 v1 v6 : Value) (wr : World) : Prop := ∃ A n c xs' B m d ys' k out, URel w xs ys cap v0 v1 v6 wr A n c xs' B m d ys' k out

theorem Sl.lt {w : World} {A : Option Addr} {n c : Nat} {fs : List Ft} (h : Sl w A n c fs) {b off : Nat} (hA : A = some ⟨b, off, none⟩) (hn : 0 < n) : b < w.heap.size := by
  obtain ⟨b', off', f, hA', _, h1, _⟩ := h.at_ hn
  rw [hA] at hA'
  simp only [Option.some.injEq, Addr.mk.injEq, and_true] at hA'
  obtain ⟨rfl, rfl⟩ := hA'
  exact World.block_lt_of_cell? w _ h1

theorem Sl.flatCells {w : World} {A : Option Addr} {n c : Nat} {fs : List Ft} (h : Sl w A n c fs) : ∀ ad, A = some ad → ∀ j u, (flat fs)[j]? = some u → w.cell? (ad.add j) = some u := by
  intro ad hA j u hj
  have hlt : j < fs.length * 2 := by rw [← flat_length]; exact (List.getElem?_eq_some_iff.1 hj).1
  have hi : j / 2 < fs.length := by omega
  have hget : fs[j / 2]? = some fs[j / 2] := List.getElem?_eq_getElem hi
  obtain ⟨b, off, hA', h1, h2⟩ := h.cells (j / 2) _ hget
  have hfg := flat_get fs (j / 2) _ hget
  rw [hA] at hA'
  obtain rfl := Option.some.inj hA'
  rw [Addr.add_lit]
  generalize fs[j / 2] = x at h1 h2 hfg
  rcases Nat.mod_two_eq_zero_or_one j with hm | hm
  · have ej : j / 2 * 2 = j := by omega
    rw [ej] at h1 hfg
    rw [hfg.1] at hj
    rw [h1]; exact hj
  · have ej : j / 2 * 2 + 1 = j := by omega
    rw [Nat.add_assoc, ej] at h2
    rw [ej] at hfg
    rw [hfg.2] at hj
    rw [h2]; exact hj

theorem Sl.len0 {w : World} {A : Option Addr} {n c : Nat} {fs : List Ft} (h : Sl w A n c fs) (e : A = none) : n = 0 := by have := h.nl e; have := h.le; omega

/-- What lies in older blocks than the row that grew stays. -/
theorem Sl.grownB {w w' : World} {A : Option Addr} {n c g : Nat} {fs : List Ft} (h : Sl w A n c fs) (hg : w.grownBy w' (some g)) (hlt : ∀ b off, A = some ⟨b, off, none⟩ → 0 < n → b < g) : Sl w' A n c fs :=
  ⟨h.len, h.le, h.max, h.cmax, h.nl, fun i f hi => by
    obtain ⟨b, off, hA, h1, h2⟩ := h.cells i f hi
    have hn : 0 < n := by have := (List.getElem?_eq_some_iff.1 hi).1; have := h.len; omega
    have hb := hlt b off hA hn
    have hbw : b < w.heap.size := World.block_lt_of_cell? w _ h1
    have hs := hg.block b hbw (fun e => by cases e; omega)
    exact ⟨b, off, hA, (World.cell?_of_block (w := w) hs).trans h1, (World.cell?_of_block (w := w) hs).trans h2⟩⟩

theorem Sl.cut1 {w : World} {b off m c : Nat} {f : Ft} {fs : List Ft} (h : Sl w (some ⟨b, off, none⟩) (m + 1) c (f :: fs)) (e : c = 1) : Sl w (some ⟨b, off, none⟩) m 0 fs := by
  have := h.cut
  rwa [if_pos e, e] at this

theorem Sl.cut2 {w : World} {b off m c : Nat} {f : Ft} {fs : List Ft} (h : Sl w (some ⟨b, off, none⟩) (m + 1) c (f :: fs)) : Sl w (some ⟨b, off + 2, none⟩) m (c - 1) fs := h.tail

theorem URelEx.next {w wr w1 w2 : World} {xs ys : List Ft} {cap : Nat} {A : Option Addr} {n c : Nat} {B : Option Addr} {m d k : Nat} {out : List Ft} (xs' ys' : List Ft) (x : Ft)
    (ha : Sl wr A n c xs') (hb : Sl wr B m d ys') (ca : ∀ b off, A = some ⟨b, off, none⟩ → 0 < n → b < w.heap.size) (cb : ∀ b off, B = some ⟨b, off, none⟩ → 0 < m → b < w.heap.size)
    (own : w2.ownsRow w.heap.size 57 2 (.slice (some ⟨w.heap.size, 0, none⟩) (k + 1) cap) (k + 1) (flat out ++ flat [x])) (h1 : Aft wr w1) (hg : w1.grownBy w2 (some w.heap.size))
    (len : out.length = k) (room : k + 1 + n + m ≤ cap) (aft : Aft w wr) (eq : unify xs ys = (unify xs' ys').map ((out ++ [x]) ++ ·)) :
    URelEx w xs ys cap (.slice A n c) (.slice B m d) (.slice (some ⟨w.heap.size, 0, none⟩) (k + 1) cap) w2 :=
  ⟨A, n, c, xs', B, m, d, ys', k + 1, out ++ [x], rfl, rfl, rfl, (ha.aft h1).grownB hg ca, (hb.aft h1).grownB hg cb, ca, cb, by rw [flat_append]; exact own, by simp [len], room, eq,
    (aft.trans h1).grown hg (fun _ e => by cases e; exact Nat.le_refl _)⟩

theorem eq_left {xs ys a b out : List Ft} {f g : Ft} (h : unify xs ys = (unify (f :: a) (g :: b)).map (out ++ ·)) (c : lt f.1 g.1 = true) : unify xs ys = (unify a (g :: b)).map ((out ++ [f]) ++ ·) := by
  rw [h, unify_cons, if_pos c]; simp [Option.map_map, Function.comp_def]
theorem eq_right {xs ys a b out : List Ft} {f g : Ft} (h : unify xs ys = (unify (f :: a) (g :: b)).map (out ++ ·)) (c : lt f.1 g.1 = false) (d : lt g.1 f.1 = true) : unify xs ys = (unify (f :: a) b).map ((out ++ [g]) ++ ·) := by
  rw [h, unify_cons, if_neg (by simp [c]), if_pos d]; simp [Option.map_map, Function.comp_def]
theorem eq_both {xs ys a b out : List Ft} {f g : Ft} (h : unify xs ys = (unify (f :: a) (g :: b)).map (out ++ ·)) (c : lt f.1 g.1 = false) (d : lt g.1 f.1 = false) (e : f.2 = g.2) : unify xs ys = (unify a b).map ((out ++ [f]) ++ ·) := by
  rw [h, unify_cons, if_neg (by simp [c]), if_neg (by simp [d]), if_pos e]; simp [Option.map_map, Function.comp_def]
theorem eq_none {xs ys a b out : List Ft} {f g : Ft} (h : unify xs ys = (unify (f :: a) (g :: b)).map (out ++ ·)) (c : lt f.1 g.1 = false) (d : lt g.1 f.1 = false) (e : ¬ f.2 = g.2) : unify xs ys = none := by
  rw [h, unify_cons, if_neg (by simp [c]), if_neg (by simp [d]), if_neg e]; rfl

theorem unify_end {w w3 : World} {xs ys xs' ys' out : List Ft} {k n m cap : Nat} {vs : List Value} {l : Nat} (h : unify xs ys = (unify xs' ys').map (out ++ ·)) (hu : unify xs' ys' = some (xs' ++ ys')) (aft : Aft w w3)
    (own : w3.ownsRow w.heap.size 57 2 (.slice (some ⟨w.heap.size, 0, none⟩) l cap) l vs) (hv : vs = flat out ++ flat xs' ++ flat ys') (hl : l = k + n + m) (ho : out.length = k) (hn : xs'.length = n) (hm : ys'.length = m) (hr : k + n + m ≤ cap) (hc : cap * 32 ≤ 281474976710656) :
    UnifyPost w (unify xs ys) (.returned (.tuple #[.slice (some ⟨w.heap.size, 0, none⟩) l cap, .bool true])) w3 := by
  refine ⟨aft, ?_⟩
  rw [h, hu]
  subst hv
  refine ⟨_, _, _, rfl, Sl.of_own (base := w.heap.size) ?_ ?_ (by omega) (by omega)⟩
  · rw [flat_append, flat_append, ← List.append_assoc]; exact own
  · simp; omega

end Go.Proofs.YthoppaemlandaaaDoor
