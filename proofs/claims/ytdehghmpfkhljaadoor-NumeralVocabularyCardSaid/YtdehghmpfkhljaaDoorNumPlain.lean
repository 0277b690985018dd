/-
  Plain mathematics of numerals (no Go in sight): the words of a number, level by level of the powers. Conditions: as each theorem says.
-/
import GoSem.Op.String
import Derived.Lib.ValidU
import Derived.Shelf.GgClosure.StringsIndexFunc
namespace Go.Proofs.YtdehghmpfkhljaaDoor.NumPlain

abbrev BA := ByteArray
/-- A numeral system, with where its words lie. -/
structure Nm where
  base : Int
  da : Option Addr
  dn : Nat
  dc : Nat
  ds : List BA
  pa : Option Addr
  pn : Nat
  pc : Nat
  ps : List BA
  sf : Bool
  jo : BA
  sub : Int
  le : BA
  om : Bool

def neB (s : BA) : Bool := !decide (s.size = 0)
/-- All words of the lists that are not empty. -/
def col (ls : List (List BA)) : List BA := ls.flatten.filter neB
/-- Is the string a token? -/
def tokB (s : BA) : Bool := neB s && Lib.validD s.data.toList && !decide (0 ≤ Lib.idxFunc (fun r => decide (r ≤ 32)) true s)
def validB (x : Nm) : Bool := (decide (x.base = 10) || decide (x.base = 20)) && decide ((x.dn : Int) = x.base) && decide (x.pn = 3) && !decide (x.sub < 0) && !decide (x.base / 2 ≤ x.sub) && !(decide (0 < x.sub) && decide (x.le.size = 0)) && x.ds.all tokB && x.ps.all tokB && (decide (x.jo.size = 0) || tokB x.jo) && (decide (x.le.size = 0) || tokB x.le)

def bs (x : Nm) : Nat := x.base.toNat
def dig (x : Nm) (n : Nat) : List BA := col [[x.ds.getD n ByteArray.empty]]
/-- The head of a multiple. -/
def headW (x : Nm) (q k : Nat) : List BA := if 1 < q ∨ x.om = false then col [dig x q, [x.ps.getD k ByteArray.empty]] else [x.ps.getD k ByteArray.empty]
/-- The words of a number below the power k + 1 of the base. -/
def W (x : Nm) : Nat → Nat → List BA
  | 0, n => dig x n
  | k + 1, n =>
    if n < bs x ^ (k + 1) then W x k n
    else if 0 < x.sub ∧ bs x ^ (k + 1) ≤ n % bs x ^ (k + 1) + x.sub.toNat ∧ n / bs x ^ (k + 1) + 1 < bs x then col [dig x (bs x ^ (k + 1) - n % bs x ^ (k + 1)), [x.le], col [headW x (n / bs x ^ (k + 1) + 1) k]]
    else if n % bs x ^ (k + 1) = 0 then col [headW x (n / bs x ^ (k + 1)) k]
    else if x.sf then col [W x k (n % bs x ^ (k + 1)), [x.jo], headW x (n / bs x ^ (k + 1)) k]
    else col [headW x (n / bs x ^ (k + 1)) k, [x.jo], W x k (n % bs x ^ (k + 1))]
def wordsB (x : Nm) (n : Nat) : List BA := W x 3 n

/-- What is known of a valid system. -/
structure Ok (x : Nm) : Prop where
  base : x.base = 10 ∨ x.base = 20
  dn : (x.dn : Int) = x.base
  pn : x.pn = 3
  sub0 : 0 ≤ x.sub
  sub1 : x.sub < x.base / 2
  le : 0 < x.sub → x.le.size ≠ 0
  td : ∀ s ∈ x.ds, tokB s = true
  tp : ∀ s ∈ x.ps, tokB s = true
  tj : x.jo.size = 0 ∨ tokB x.jo = true
  tl : x.le.size = 0 ∨ tokB x.le = true
theorem ok_of {x : Nm} (h : validB x = true) : Ok x := by
  unfold validB at h
  simp only [Bool.and_eq_true, Bool.or_eq_true, Bool.not_eq_true', decide_eq_true_eq, decide_eq_false_iff_not, Bool.and_eq_false_iff, List.all_eq_true] at h
  obtain ⟨⟨⟨⟨⟨⟨⟨⟨⟨h1, h2⟩, h3⟩, h4⟩, h5⟩, h6⟩, h7⟩, h8⟩, h9⟩, h10⟩ := h
  exact ⟨h1, h2, h3, by omega, by omega, fun h => by rcases h6 with h6 | h6; exact absurd h h6; exact h6, h7, h8, h9, h10⟩
theorem Ok.bs {x : Nm} (h : Ok x) : bs x = 10 ∨ bs x = 20 := by
  unfold NumPlain.bs
  rcases h.base with h | h <;> rw [h]
  · left; rfl
  · right; rfl
theorem tok_ne {s : BA} (h : tokB s = true) : neB s = true := by
  unfold tokB at h
  simp only [Bool.and_eq_true] at h
  exact h.1.1
theorem W_low {x : Nm} {k n : Nat} (h : n < bs x ^ (k + 1)) : W x (k + 1) n = W x k n := by rw [W, if_pos h]
theorem col_nil : col [] = [] := rfl
theorem col_cons (l : List BA) (ls : List (List BA)) : col (l :: ls) = l.filter neB ++ col ls := by unfold col; rw [List.flatten_cons, List.filter_append]
theorem col_snoc (ls : List (List BA)) (l : List BA) : col (ls ++ [l]) = col ls ++ l.filter neB := by unfold col; simp
theorem col_keep (ls : List (List BA)) : (col ls).filter neB = col ls := by unfold col; rw [List.filter_filter]; congr 1; funext a; cases neB a <;> rfl
end Go.Proofs.YtdehghmpfkhljaaDoor.NumPlain
