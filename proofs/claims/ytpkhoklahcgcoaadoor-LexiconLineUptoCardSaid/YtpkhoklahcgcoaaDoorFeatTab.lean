/-
  What the walks over the tables of package feature share: which blocks a step leaves as they are ('Chg'), how a table lies in memory ('Tb'), and slices.Clone of a slice of features. Conditions: as each theorem says.
-/
import Derived.Test.YtpkhoklahcgcoaaDoorFtAll
import Derived.Lib.SliceRun
namespace Go.Proofs.YtpkhoklahcgcoaaDoor
open Go.RowKit
open FeatPlain

/-- The features of a list that a call made. -/
def Cl (w : World) (v : Value) (fs : List Ft) : Prop := w.ownsRow 0 37 2 v fs.length (flat fs) ∧ fs.length * 32 ≤ 281474976710656
theorem Cl.chg {ts : List TypeId} {B : Nat} {w w' : World} {v : Value} {fs : List Ft} (h : Cl w v fs) (k : Chg ts B w w') (ht : 37 ∉ ts) : Cl w' v fs := ⟨k.row h.1 ht, h.2⟩
theorem Cl.sl {w : World} {v : Value} {fs : List Ft} (h : Cl w v fs) : ∃ A c, v = .slice A fs.length c ∧ Sl w A fs.length c fs := by
  rcases h.1.2 with ⟨rfl, h0⟩ | ⟨g, cap, cur, rfl, _, _, hle, _, _⟩
  · have : fs = [] := List.length_eq_zero_iff.1 h0
    subst this
    exact ⟨none, 0, rfl, Sl.nil (by omega) (fun _ => rfl)⟩
  · exact ⟨_, _, rfl, Sl.of_own h.1 rfl hle h.2⟩

abbrev En := List Ft × Int
/-- The cells of a list of entries. -/
def Ents (w : World) : List Value → List En → Prop
  | [], [] => True
  | cv :: xv :: vs, e :: es => Cl w cv e.1 ∧ xv = .int .i64 e.2 ∧ Ents w vs es
  | _, _ => False
theorem Ents.chg {ts : List TypeId} {B : Nat} {w w' : World} (k : Chg ts B w w') (ht : 37 ∉ ts) : ∀ {vs : List Value} {es : List En}, Ents w vs es → Ents w' vs es
  | [], [], _ => trivial
  | _ :: _ :: _, _ :: _, ⟨h1, h2, h3⟩ => ⟨h1.chg k ht, h2, Ents.chg k ht h3⟩
  | [], _ :: _, h => h.elim
  | [_], [], h => h.elim
  | [_], _ :: _, h => h.elim
  | _ :: _ :: _, [], h => h.elim
theorem Ents.snoc {w : World} {cv : Value} {e : En} (h : Cl w cv e.1) : ∀ {vs : List Value} {es : List En}, Ents w vs es → Ents w (vs ++ [cv, .int .i64 e.2]) (es ++ [e])
  | [], [], _ => ⟨h, rfl, trivial⟩
  | _ :: _ :: _, _ :: _, ⟨h1, h2, h3⟩ => ⟨h1, h2, Ents.snoc h h3⟩
  | [], _ :: _, h => h.elim
  | [_], [], h => h.elim
  | [_], _ :: _, h => h.elim
  | _ :: _ :: _, [], h => h.elim
theorem Ents.at_ {w : World} : ∀ {vs : List Value} {es : List En} {i : Nat} {e : En}, Ents w vs es → es[i]? = some e → ∃ cv, vs[i * 2]? = some cv ∧ vs[i * 2 + 1]? = some (.int .i64 e.2) ∧ Cl w cv e.1
  | cv :: _ :: _, _ :: _, 0, e, ⟨h1, h2, _⟩, h => by simp at h; subst h; subst h2; exact ⟨cv, rfl, rfl, h1⟩
  | _ :: _ :: _, _ :: _, i + 1, e, ⟨_, _, h3⟩, h => by
    obtain ⟨cv, a, b, c⟩ := Ents.at_ h3 (by simpa using h)
    rw [show (i + 1) * 2 = i * 2 + 1 + 1 from by omega]
    exact ⟨cv, a, b, c⟩
  | [], [], _, _, _, h => by simp at h
  | [], _ :: _, _, _, h, _ => h.elim
  | [_], [], _, _, h, _ => h.elim
  | [_], _ :: _, _, _, h, _ => h.elim
  | _ :: _ :: _, [], _, _, h, _ => h.elim

set_option maxRecDepth 100000 in
set_option maxHeartbeats 800000 in
theorem clone_any (A : Option Addr) (n c : Nat) (xs : List Ft) (w : World) (ha : Sl w A n c xs) (hb : n * 32 ≤ 140737488355328) :
    Calls Tryd.prog 65 #[.slice A n c] w (fun e w' => ∃ v, e = .returned v ∧ w'.ownsRow w.heap.size 37 2 v n (flat xs) ∧ Aft w w') := by
  have hlen := Lib.hid ha.len
  obtain ⟨i0, hi, hz0, hz1, hz2⟩ := info_parts Tryd.infoF
  have qn : ∀ (w : World) (a : Option Addr) (n c n' c' : Nat), (binOp .eql 22 (.slice a n c) (.slice none n' c')).run Tryd.prog w = .ok (.bool a.isNone) w := fun w a n c n' c' => Lib.run_eql_slice_nil w _ _ a n c n' c' Tryd.underlying22
  cases A with
  | none =>
    obtain rfl : c = 0 := ha.nl rfl
    obtain rfl : n = 0 := by have := ha.le; omega
    have hx := Lib.hid (List.length_eq_zero_iff.1 hlen.out)
    go_enter Tryd.func65, Tryd.ntmps65
    go_wp2
    go_ret
    exact ⟨_, rfl, by rw [hx.out]; exact World.ownsRow_nil _ _ _ _, Aft.refl _⟩
  | some x =>
    have own0 : (w.alloc (.cells #[] 37)).ownsRow w.heap.size 37 2 (.slice (some ⟨w.heap.size, 0, none⟩) 0 0) 0 [] := World.ownsRow_lit w #[] 0 (Nat.le_refl _) (by unfold maxLen; omega) rfl
    go_enter Tryd.func65, Tryd.ntmps65
    go_wp2_with (at_builtin; refine wpList_append_any rfl _ _ 22 rfl w.heap.size 37 i0 _ 2 32 Tryd.underlying22 hi hz0 hz1 hz2 rfl (by decide) _ _ _ rfl own0 (some x) n c (flat xs) rfl (by rw [flat_length, hlen.out]) (fun e => by cases e) (ha.aft ((Aft.refl w).alloc _)).flatCells (flat_one _) (by unfold maxLen; omega) (by omega) (by simp) ?_; intro v0 w1 own1 grow1)
    have own1' : w1.ownsRow w.heap.size 37 2 v0 n (flat xs) := by rw [Nat.zero_add, List.nil_append] at own1; exact own1
    have A1 : Aft w w1 := ((Aft.refl w).alloc _).grown grow1 (fun r hr => (own0.lt r hr).1)
    clear own0 own1 grow1
    go_wp2
    go_ret
    exact ⟨_, rfl, own1', A1⟩
end Go.Proofs.YtpkhoklahcgcoaaDoor
