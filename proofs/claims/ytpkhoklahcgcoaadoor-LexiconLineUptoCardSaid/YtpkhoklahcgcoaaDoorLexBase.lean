/-
  How lexemes lie in memory ('Lx', 'Ls'): five cells each, the last of them a slice of features. Conditions: as each theorem says.
-/
import Derived.Test.YtpkhoklahcgcoaaDoorFtAll
namespace Go.Proofs.YtpkhoklahcgcoaaDoor
open Go.RowKit
open FeatPlain

/-- A lexeme: its four strings, the slice of its features, and what that holds. -/
structure Lx where
  id : ByteArray
  cat : ByteArray
  stem : ByteArray
  par : ByteArray
  fa : Option Addr
  fn : Nat
  fc : Nat
  fs : List Ft

/-- What a lexeme says. -/
abbrev Lxp := ByteArray × ByteArray × ByteArray × ByteArray × List Ft
def Lx.say (x : Lx) : Lxp := (x.id, x.cat, x.stem, x.par, x.fs)

/-- The lexeme's features lie where it says, and its strings are no longer than strings can be. -/
structure Lw (w : World) (x : Lx) : Prop where
  fts : Sl w x.fa x.fn x.fc x.fs
  wid : x.id.size ≤ maxLen
  wcat : x.cat.size ≤ maxLen
  wstem : x.stem.size ≤ maxLen
  wpar : x.par.size ≤ maxLen
theorem Lw.aft {w w' : World} {x : Lx} (h : Lw w x) (k : Aft w w') : Lw w' x := ⟨h.fts.aft k, h.wid, h.wcat, h.wstem, h.wpar⟩

/-- Five cells from p on hold the lexeme. -/
structure Five (w : World) (b o : Nat) (x : Lx) : Prop where
  c0 : w.cell? ⟨b, o, none⟩ = some (.string x.id)
  c1 : w.cell? ⟨b, o + 1, none⟩ = some (.string x.cat)
  c2 : w.cell? ⟨b, o + 2, none⟩ = some (.string x.stem)
  c3 : w.cell? ⟨b, o + 3, none⟩ = some (.string x.par)
  c4 : w.cell? ⟨b, o + 4, none⟩ = some (.slice x.fa x.fn x.fc)
theorem Five.aft {w w' : World} {b o : Nat} {x : Lx} (h : Five w b o x) (k : Aft w w') : Five w' b o x := ⟨k.cell h.c0, k.cell h.c1, k.cell h.c2, k.cell h.c3, k.cell h.c4⟩

/-- THE SLICE '.slice A n c' HOLDS THE LEXEMES xs. -/
structure Ls (w : World) (A : Option Addr) (n c : Nat) (xs : List Lx) : Prop where
  len : xs.length = n
  le : n ≤ c
  max : n * 88 ≤ 281474976710656
  cmax : c ≤ 9223372036854775807
  nl : A = none → c = 0
  cells : ∀ i x, xs[i]? = some x → ∃ b off, A = some ⟨b, off, none⟩ ∧ Five w b (off + i * 5) x
  lw : ∀ x ∈ xs, Lw w x
theorem Ls.aft {w w' : World} {A : Option Addr} {n c : Nat} {xs : List Lx} (h : Ls w A n c xs) (k : Aft w w') : Ls w' A n c xs :=
  ⟨h.len, h.le, h.max, h.cmax, h.nl, fun i x hi => by
    obtain ⟨b, off, hA, h1⟩ := h.cells i x hi
    exact ⟨b, off, hA, h1.aft k⟩, fun x hx => (h.lw x hx).aft k⟩
theorem Ls.at_ {w : World} {A : Option Addr} {n c k : Nat} {xs : List Lx} (h : Ls w A n c xs) (hk : k < n) :
    ∃ b off x, A = some ⟨b, off, none⟩ ∧ xs[k]? = some x ∧ Five w b (off + k * 5) x ∧ Lw w x := by
  have hl : k < xs.length := by have := h.len; omega
  have hi : xs[k]? = some xs[k] := List.getElem?_eq_getElem hl
  obtain ⟨b, off, hA, h1⟩ := h.cells k _ hi
  exact ⟨b, off, _, hA, hi, h1, h.lw _ (List.getElem_mem hl)⟩
theorem Ls.nil {w : World} {A : Option Addr} {c : Nat} (hm : c ≤ 9223372036854775807) (hn : A = none → c = 0) : Ls w A 0 c [] := ⟨rfl, Nat.zero_le _, by omega, hm, hn, fun i f h => by simp at h, fun x h => by cases h⟩

/-- The cells of a list of lexemes. -/
def flatL : List Lx → List Value
  | [] => []
  | x :: l => .string x.id :: .string x.cat :: .string x.stem :: .string x.par :: .slice x.fa x.fn x.fc :: flatL l
theorem flatL_append : ∀ a b : List Lx, flatL (a ++ b) = flatL a ++ flatL b
  | [], _ => rfl
  | f :: a, b => by simp [flatL, flatL_append a b]
theorem flatL_length : ∀ a : List Lx, (flatL a).length = a.length * 5
  | [] => rfl
  | f :: a => by simp [flatL, flatL_length a]; omega
theorem flatL_get : ∀ (a : List Lx) (i : Nat) (x : Lx), a[i]? = some x → (flatL a)[i * 5]? = some (.string x.id) ∧ (flatL a)[i * 5 + 1]? = some (.string x.cat) ∧ (flatL a)[i * 5 + 2]? = some (.string x.stem) ∧ (flatL a)[i * 5 + 3]? = some (.string x.par) ∧ (flatL a)[i * 5 + 4]? = some (.slice x.fa x.fn x.fc)
  | y :: a, 0, x, h => by simp at h; subst h; exact ⟨rfl, rfl, rfl, rfl, rfl⟩
  | y :: a, i + 1, x, h => by
    have := flatL_get a i x (by simpa using h)
    rw [show (i + 1) * 5 = i * 5 + 1 + 1 + 1 + 1 + 1 from by omega]
    exact this
theorem flatL_one : ∀ (a : List Lx), ∀ u ∈ flatL a, u.oneCell' = true
  | [], u, h => by cases h
  | f :: a, u, h => by
    simp only [flatL, List.mem_cons] at h
    rcases h with rfl | rfl | rfl | rfl | rfl | h
    · rfl
    · rfl
    · rfl
    · rfl
    · rfl
    · exact flatL_one a u h
theorem Ls.of_own {w : World} {base g n cap : Nat} {xs : List Lx} (h : w.ownsRow base 24 5 (.slice (some ⟨g, 0, none⟩) n cap) n (flatL xs)) (hl : xs.length = n) (hle : n ≤ cap) (hm : n * 88 ≤ 281474976710656) (hw : ∀ x ∈ xs, Lw w x) :
    Ls w (some ⟨g, 0, none⟩) n cap xs :=
  ⟨hl, hle, hm, by rcases h.2 with ⟨e, _⟩ | ⟨g', cap', cur, e, _, _, _, hc, _⟩; (· cases e); (· cases e; unfold maxLen at hc; omega), fun e => (by cases e), fun i x hi => by
    have hlt : i < n := by have := (List.getElem?_eq_some_iff.1 hi).1; omega
    have hx := flatL_get xs i x hi
    refine ⟨g, 0, rfl, ?_, ?_, ?_, ?_, ?_⟩
    · rw [Nat.zero_add, h.cellAt _ (by omega)]; exact hx.1
    · rw [Nat.zero_add, h.cellAt _ (by omega)]; exact hx.2.1
    · rw [Nat.zero_add, h.cellAt _ (by omega)]; exact hx.2.2.1
    · rw [Nat.zero_add, h.cellAt _ (by omega)]; exact hx.2.2.2.1
    · rw [Nat.zero_add, h.cellAt _ (by omega)]; exact hx.2.2.2.2, hw⟩
theorem Ls.of_row {w : World} {base n : Nat} {v : Value} {xs : List Lx} (h : w.ownsRow base 24 5 v n (flatL xs)) (hl : xs.length = n) (hm : n * 88 ≤ 281474976710656) (hw : ∀ x ∈ xs, Lw w x) : ∃ A c, v = .slice A n c ∧ Ls w A n c xs := by
  rcases h.2 with ⟨rfl, rfl⟩ | ⟨g, cap, cur, rfl, _, _, hle, _, _⟩
  · have : xs = [] := List.length_eq_zero_iff.1 hl
    subst this
    exact ⟨none, 0, rfl, Ls.nil (by omega) (fun _ => rfl)⟩
  · exact ⟨_, _, rfl, Ls.of_own h hl hle hm hw⟩
theorem Tryd.infoL : (Tryd.prog.info? 24).map (fun i => (i.zero, i.size, i.bytes)) = some (some (.agg #[.string ByteArray.empty, .string ByteArray.empty, .string ByteArray.empty, .string ByteArray.empty, .slice none 0 0]), 5, 88) := by kernel_rfl
theorem one_cellsL (w : World) (x : Lx) (H : Nat) (h : w.heap.size = H) : ∀ j u, (flatL [x])[j]? = some u → (w.alloc (.cells #[.string x.id, .string x.cat, .string x.stem, .string x.par, .slice x.fa x.fn x.fc] 24)).cell? ((⟨H, 0, none⟩ : Addr).add j) = some u := by
  subst h
  intro j u hj
  match j, hj with
  | 0, hj => simp [flatL] at hj; subst hj; simp [Addr.add]
  | 1, hj => simp [flatL] at hj; subst hj; simp [Addr.add]
  | 2, hj => simp [flatL] at hj; subst hj; simp [Addr.add]
  | 3, hj => simp [flatL] at hj; subst hj; simp [Addr.add]
  | 4, hj => simp [flatL] at hj; subst hj; simp [Addr.add]
  | j + 5, hj => simp [flatL] at hj
theorem five_new (w : World) (x : Lx) (t : TypeId) : Five (w.alloc (.cells #[.string x.id, .string x.cat, .string x.stem, .string x.par, .slice x.fa x.fn x.fc] t)) w.heap.size 0 x :=
  ⟨by simp, by simp, by simp, by simp, by simp⟩
theorem row_ltL {w wr : World} {t : TypeId} {s : Nat} {v : Value} {n : Nat} {l : List Value} (h : wr.ownsRow w.heap.size t s v n l) : ∀ g, v.ownBlock = some g → w.heap.size ≤ g := fun g hg => (h.lt g hg).1
theorem row_shape {w : World} {base n s : Nat} {t : TypeId} {v : Value} {l : List Value} (h : w.ownsRow base t s v (n + 1) l) : ∃ g cap, v = .slice (some ⟨g, 0, none⟩) (n + 1) cap := by
  rcases h.2 with ⟨_, h0⟩ | ⟨g, cap, cur, hv, _⟩
  · omega
  · exact ⟨g, cap, hv⟩
theorem step_filter {α : Type} {xs out : List α} {p : α → Bool} {k : Nat} {f : α} (h : xs.filter p = out ++ (xs.drop k).filter p) (hf : xs[k]? = some f) : xs.filter p = (out ++ if p f then [f] else []) ++ (xs.drop (k + 1)).filter p := by
  rw [h, drop_of_get hf, List.filter_cons]
  split <;> simp
end Go.Proofs.YtpkhoklahcgcoaaDoor
