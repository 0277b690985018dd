/-
  Plain mathematics of the syllables: each contains one nucleus, none is empty, together they are the word. Conditions: as each theorem says.
-/
import Derived.Test.YtfjfgjncmliadaaDoorSylBack
namespace Go.Proofs.YtfjfgjncmliadaaDoor
open Go.RowKit
open AlphPlain
open Go.Lib (validD)

theorem nuc_append (ls : List Lt) : ∀ (a b : List Int) (i : Nat), nuc ls (a ++ b) i = nuc ls a i ++ nuc ls b (i + a.length)
  | [], b, i => by simp [nuc]
  | r :: a, b, i => by
    rw [List.cons_append, nuc, nuc, nuc_append ls a b (i + 1), List.append_assoc, List.length_cons, show i + 1 + a.length = i + (a.length + 1) by omega]
theorem nuc_shift (ls : List Lt) : ∀ (rs : List Int) (i j : Nat), (nuc ls rs i).length = (nuc ls rs j).length
  | [], _, _ => rfl
  | r :: rs, i, j => by
    rw [nuc, nuc, List.length_append, List.length_append, nuc_shift ls rs (i + 1) (j + 1)]
    cases vowB ls r <;> simp
theorem three (rs : List Int) {a b : Nat} (hab : a ≤ b) : rs = rs.take a ++ (sub rs a b ++ rs.drop b) := by
  unfold sub
  have h1 : (rs.drop a).take (b - a) ++ rs.drop b = rs.drop a := by
    have : rs.drop b = (rs.drop a).drop (b - a) := by rw [List.drop_drop]; congr 1; omega
    rw [this, List.take_append_drop]
  rw [h1, List.take_append_drop]
theorem nuc_sub (ls : List Lt) {rs : List Int} {a b : Nat} (hab : a ≤ b) (hb : b ≤ rs.length) : (nuc ls (sub rs a b) 0).length = ((nuc ls rs 0).filter (fun x => decide (a ≤ x) && decide (x < b))).length := by
  have h3 := three rs hab
  have hta : (rs.take a).length = a := by rw [List.length_take]; omega
  have hsl := sub_length (rs := rs) (a := a) (b := b) hb
  have hn : nuc ls rs 0 = nuc ls (rs.take a) 0 ++ (nuc ls (sub rs a b) a ++ nuc ls (rs.drop b) b) := by
    conv => lhs; rw [h3]
    rw [nuc_append, nuc_append, hta, hsl]
    congr 2
    · rw [Nat.zero_add]
    · congr 1; omega
  rw [hn, List.filter_append, List.filter_append]
  have f1 : (nuc ls (rs.take a) 0).filter (fun x => decide (a ≤ x) && decide (x < b)) = [] := by
    rw [List.filter_eq_nil_iff]
    intro x hx
    have := (nuc_mem hx).2
    simp
    omega
  have f2 : (nuc ls (sub rs a b) a).filter (fun x => decide (a ≤ x) && decide (x < b)) = nuc ls (sub rs a b) a := by
    rw [List.filter_eq_self]
    intro x hx
    have := nuc_mem hx
    simp
    omega
  have f3 : (nuc ls (rs.drop b) b).filter (fun x => decide (a ≤ x) && decide (x < b)) = [] := by
    rw [List.filter_eq_nil_iff]
    intro x hx
    have := (nuc_mem hx).1
    simp
    omega
  rw [f1, f2, f3, List.append_nil, List.nil_append]
  exact nuc_shift ls _ _ _

theorem pcs_ge {ls : List Lt} {m : List (List Int)} {rs : List Int} {n : Nat} : ∀ (ns : List Nat) (b : Nat), (∀ x, ns.head? = some x → b ≤ x) → ns.Pairwise (· < ·) → ∀ p ∈ pcs n b (begs ls m rs ns), b ≤ p.1
  | [], b, _, _, p, hp => by
    rw [begs, pcs] at hp
    · split at hp
      · simp at hp; subst hp; exact Nat.le_refl _
      · cases hp
    · simp
  | [x], b, _, _, p, hp => by
    rw [begs, pcs] at hp
    · split at hp
      · simp at hp; subst hp; exact Nat.le_refl _
      · cases hp
    · simp
  | x :: y :: ns, b, hb, hs, p, hp => by
    rw [begs, pcs] at hp
    have hxy : x < y := (List.pairwise_cons.1 hs).1 y (by simp)
    have hbx := hb x rfl
    have hc := cut_le (ls := ls) (m := m) (rs := rs) (show x + 1 ≤ y from hxy)
    rcases List.mem_cons.1 hp with rfl | hp
    · exact Nat.le_refl _
    · have := pcs_ge (y :: ns) _ (fun z hz => by cases hz; omega) (List.pairwise_cons.1 hs).2 p hp
      omega
theorem pcs_one {ls : List Lt} {m : List (List Int)} {rs : List Int} {n : Nat} : ∀ (ns : List Nat) (b : Nat), ns ≠ [] → (∀ x, ns.head? = some x → b ≤ x) → ns.Pairwise (· < ·) → (∀ x ∈ ns, x < n) → ∀ p ∈ pcs n b (begs ls m rs ns), (ns.filter (fun x => decide (p.1 ≤ x) && decide (x < p.2))).length = 1
  | [], b, h, _, _, _, p, hp => absurd rfl h
  | [x], b, _, hb, _, hn, p, hp => by
    rw [begs, pcs] at hp
    · have h1 := hb x rfl
      have h2 := hn x (by simp)
      rw [if_pos (by omega)] at hp
      simp at hp
      subst hp
      rw [List.filter_cons_of_pos (by simp; omega)]
      rfl
    · simp
  | x :: y :: ns, b, _, hb, hs, hn, p, hp => by
    rw [begs, pcs] at hp
    have hxy : x < y := (List.pairwise_cons.1 hs).1 y (by simp)
    have hbx := hb x rfl
    have hc := cut_le (ls := ls) (m := m) (rs := rs) (show x + 1 ≤ y from hxy)
    rcases List.mem_cons.1 hp with rfl | hp
    · rw [List.filter_cons_of_pos (by simp; omega)]
      have : (y :: ns).filter (fun z => decide (b ≤ z) && decide (z < cut ls m rs (x + 1) y)) = [] := by
        rw [List.filter_eq_nil_iff]
        intro z hz
        have hyz : y ≤ z := by
          rcases List.mem_cons.1 hz with rfl | hz
          · exact Nat.le_refl _
          · exact Nat.le_of_lt ((List.pairwise_cons.1 (List.pairwise_cons.1 hs).2).1 z hz)
        simp
        omega
      rw [this]
      rfl
    · have hge := pcs_ge (ls := ls) (m := m) (rs := rs) (y :: ns) _ (fun z hz => by cases hz; omega) (List.pairwise_cons.1 hs).2 p hp
      rw [List.filter_cons_of_neg (by simp; omega)]
      exact pcs_one (y :: ns) _ (by simp) (fun z hz => by cases hz; omega) (List.pairwise_cons.1 hs).2 (fun z hz => hn z (by simp [List.mem_cons.1 hz])) p hp
theorem syl_one {ls : List Lt} {m : List (List Int)} {rs : List Int} {p : Nat × Nat} (hp : p ∈ sylP ls m rs) (hn : nuc ls rs 0 ≠ []) : (nuc ls (sub rs p.1 p.2) 0).length = 1 := by
  have hpo := sylP_ok hp
  rw [nuc_sub ls (Nat.le_of_lt hpo.1) hpo.2]
  exact pcs_one _ 0 hn (fun _ _ => Nat.zero_le _) (nuc_pair ls rs 0) (fun x hx => by have := (nuc_mem hx).2; omega) p hp
theorem begs_len {ls : List Lt} {m : List (List Int)} {rs : List Int} : ∀ (ns : List Nat), (begs ls m rs ns).length = ns.length - 1
  | [] => by rw [begs]; · rfl
             · simp
  | [x] => by rw [begs]; · rfl
              · simp
  | x :: y :: ns => by rw [begs, List.length_cons, begs_len (y :: ns)]; simp
theorem syl_count {ls : List Lt} {m : List (List Int)} {rs : List Int} : (sylP ls m rs).length ≤ 1 ∨ (nuc ls rs 0).length = (sylP ls m rs).length := by
  rw [sylP_length]
  unfold stP
  by_cases h0 : rs.length = 0
  · rw [if_pos h0]; simp
  · rw [if_neg h0, List.length_cons, begs_len]
    by_cases hn : (nuc ls rs 0).length = 0
    · rw [hn]; simp
    · right; omega

theorem runesBytes_append (a b : List Int) : runesBytes (a ++ b) = runesBytes a ++ runesBytes b := by
  have : ∀ (b : List Int) (n : Nat), b.length = n → runesBytes (a ++ b) = runesBytes a ++ runesBytes b := by
    intro b n
    induction n generalizing b with
    | zero =>
      intro h
      rw [List.length_eq_zero_iff.1 h, List.append_nil]
      exact ByteArray.append_empty.symm
    | succ n ih =>
      intro h
      have hne : b ≠ [] := fun e => by rw [e] at h; cases h
      have hb := List.dropLast_concat_getLast hne
      generalize b.getLast hne = r at hb
      have hl : b.dropLast.length = n := by rw [List.length_dropLast]; omega
      generalize b.dropLast = c at hb hl
      subst hb
      rw [← List.append_assoc, runesBytes_snoc, ih c hl, runesBytes_snoc, ByteArray.append_assoc]
  exact this b _ rfl
theorem sub_take (rs : List Int) {a b : Nat} (hab : a ≤ b) : rs.take a ++ sub rs a b = rs.take b := by
  unfold sub
  have h : rs.take a = (rs.take b).take a := by rw [List.take_take]; congr 1; omega
  have h2 : (rs.drop a).take (b - a) = (rs.take b).drop a := by rw [List.drop_take]
  rw [h, h2, List.take_append_drop]
theorem piece_ne {rs : List Int} (h : ∀ r ∈ rs, goodB r = true) (hn : rs ≠ []) : (runesBytes rs).toList.isEmpty = false := by
  cases he : (runesBytes rs).toList.isEmpty with
  | false => rfl
  | true =>
    exfalso
    have hb := runes_back _ rs rfl h
    rw [List.isEmpty_iff] at he
    have hd : (runesBytes rs).data.toList = [] := by rw [← Lib.toList_data]; exact he
    rw [hd] at hb
    exact hn hb.2.symm
theorem word_back {ls : List Lt} {m : List (List Int)} {L R : Int} {s : ByteArray} (h : okD ls m L R s = true) : runesBytes (runesOf s) = s := by
  have hb := runes_back _ (runesOf s) rfl (ok_good h)
  have hv : validD s.data.toList = true := by
    unfold okD wordB at h
    simp only [Bool.and_eq_true] at h
    exact h.2.1.1
  exact runes_inj (by rw [utfB_valid]; exact hb.1) (by rw [utfB_valid]; exact hv) (by rw [runesOf_rd, hb.2])
theorem pcs_nil {n b : Nat} {es : List Nat} (h : [] = pcs n b es) : n ≤ b := by
  cases es with
  | nil =>
    rw [pcs] at h
    split at h
    · cases h
    · omega
  | cons e es => rw [pcs] at h; cases h
end Go.Proofs.YtfjfgjncmliadaaDoor
