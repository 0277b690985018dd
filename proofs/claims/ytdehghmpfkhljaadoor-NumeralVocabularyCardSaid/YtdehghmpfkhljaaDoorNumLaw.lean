/-
  Plain mathematics of the laws of numerals: the recursive equations of the words as a reader of the specification writes them; what a renaming of the tokens does; when concatenated letters are equal. Conditions: as each theorem says.
-/
import Derived.Test.YtdehghmpfkhljaaDoorNumInv
namespace Go.Proofs.YtdehghmpfkhljaaDoor
open NumPlain

/-- The joiner as a list: none if it is empty. -/
def joL (x : Nm) : List BA := if x.jo.size = 0 then [] else [x.jo]
theorem joL_eq (x : Nm) : [x.jo].filter neB = joL x := by
  unfold joL neB
  by_cases h : x.jo.size = 0
  · rw [if_pos h, List.filter_cons]; simp [h]
  · rw [if_neg h, List.filter_cons]; simp [h]
/-- The head of a multiple, in words of numbers. -/
def headR (x : Nm) (q i : Nat) : List BA := (if q ≠ 1 ∨ x.om = false then wordsB x q else []) ++ [x.ps.getD i ByteArray.empty]
theorem words_low {x : Nm} (h : Len x) {n : Nat} (hn : n < bs x) : wordsB x n = [x.ds.getD n ByteArray.empty] := by
  unfold wordsB
  rw [W_top (j := 0) (by omega) (by simpa using hn), W, dig_one h hn]
theorem head_eq {x : Nm} (h : Len x) {q i : Nat} (hq0 : 1 ≤ q) (hq : q < bs x) (hi : i < 3) : headW x q i = headR x q i := by
  unfold headR
  by_cases hc : 1 < q ∨ x.om = false
  · rw [head_two h hq hi hc, if_pos (by rcases hc with hc | hc; left; omega; right; exact hc), words_low h hq]; rfl
  · rw [head_one hc, if_neg (by intro k; apply hc; rcases k with k | k; left; omega; right; exact k)]; rfl
theorem head_keep {x : Nm} (h : Len x) {q i : Nat} (hi : i < 3) : (headW x q i).filter neB = headW x q i := by
  by_cases hc : 1 < q ∨ x.om = false
  · unfold headW; rw [if_pos hc]; exact col_keep _
  · rw [head_one hc, List.filter_cons, if_pos (pow_one h hi)]; rfl
theorem col_head {x : Nm} (h : Len x) {q i : Nat} (hi : i < 3) : col [headW x q i] = headW x q i := by
  rw [col_cons, col_nil, List.append_nil, head_keep h hi]
theorem quot_lt {x : Nm} (h : Len x) {i n : Nat} (hn : n < bs x ^ (i + 1 + 1)) : n / bs x ^ (i + 1) < bs x := by
  have := h.pow i
  rw [Nat.div_lt_iff_lt_mul (by omega)]
  rw [Nat.pow_succ, Nat.mul_comm] at hn
  exact hn
theorem quot_pos {x : Nm} (h : Len x) {i n : Nat} (h1 : bs x ^ (i + 1) ≤ n) : 1 ≤ n / bs x ^ (i + 1) := by
  have := h.pow i
  exact (Nat.le_div_iff_mul_le (by omega)).2 (by omega)
theorem words_at {x : Nm} {i n : Nat} (hi : i < 3) (hn : n < bs x ^ (i + 1 + 1)) : wordsB x n = W x (i + 1) n := W_top (by omega) hn
theorem sub_lt {x : Nm} (h : Len x) : x.sub.toNat < 10 ∧ 2 * x.sub.toNat < bs x := by
  have h1 := h.ok.sub1
  have h0 := h.ok.sub0
  have hb : x.base = 10 ∨ x.base = 20 := h.ok.base
  unfold bs
  rcases hb with hb | hb <;> rw [hb] at h1 ⊢ <;> omega
/-- A multiple of its power is its head. -/
theorem words_mult {x : Nm} (h : Len x) {i q : Nat} (hi : i < 3) (hq0 : 1 ≤ q) (hq : q < bs x) : wordsB x (q * bs x ^ (i + 1)) = headR x q i := by
  have hp := h.pow i
  have hs := sub_lt h
  have hb : bs x ≤ bs x ^ (i + 1) := by
    calc bs x = bs x ^ 1 := by simp
      _ ≤ _ := pow_up (by have := h.b; omega) (by omega)
  have hlt : q * bs x ^ (i + 1) < bs x ^ (i + 1 + 1) := by
    rw [Nat.pow_succ (n := bs x) (m := i + 1), Nat.mul_comm (bs x ^ (i + 1))]
    exact Nat.mul_lt_mul_of_pos_right hq (by omega)
  have hge : ¬ q * bs x ^ (i + 1) < bs x ^ (i + 1) := by
    have := Nat.mul_le_mul_right (bs x ^ (i + 1)) hq0
    omega
  rw [words_at hi hlt, W, if_neg hge, Nat.mul_mod_left, Nat.mul_div_cancel _ (by omega), if_neg (by omega), if_pos rfl, col_head h hi, head_eq h hq0 hq hi]
/-- The words of a number just below a multiple. -/
theorem words_sub {x : Nm} (h : Len x) {i n : Nat} (hi : i < 3) (h1 : bs x ^ (i + 1) ≤ n) (h2 : n < bs x ^ (i + 1 + 1)) (hc : 0 < x.sub ∧ bs x ^ (i + 1) ≤ n % bs x ^ (i + 1) + x.sub.toNat ∧ n / bs x ^ (i + 1) + 1 < bs x) :
    wordsB x n = wordsB x (bs x ^ (i + 1) - n % bs x ^ (i + 1)) ++ ([x.le] ++ wordsB x ((n / bs x ^ (i + 1) + 1) * bs x ^ (i + 1))) := by
  have hs := sub_lt h
  have hle : neB x.le = true := by
    have := h.ok.le hc.1
    unfold neB; simp [this]
  have hd : bs x ^ (i + 1) - n % bs x ^ (i + 1) < bs x := by omega
  rw [words_at hi h2, W, if_neg (by omega), if_pos hc, words_mult h hi (Nat.succ_le_succ (Nat.zero_le _)) hc.2.2, words_low h hd, col_cons, col_cons, col_cons, col_nil, List.append_nil, col_keep, col_head h hi, head_eq h (Nat.succ_le_succ (Nat.zero_le _)) hc.2.2 hi, dig_one h hd]
  have e1 := dig_one h hd
  unfold dig at e1
  have e2 := col_keep [[x.ds.getD (bs x ^ (i + 1) - n % bs x ^ (i + 1)) ByteArray.empty]]
  rw [e1] at e2
  rw [e2, List.filter_cons, if_pos hle]
  rfl
/-- The words of a number that is a multiple and a remainder. -/
theorem words_rest {x : Nm} (h : Len x) {i n : Nat} (hi : i < 3) (h1 : bs x ^ (i + 1) ≤ n) (h2 : n < bs x ^ (i + 1 + 1)) (hc : ¬ (0 < x.sub ∧ bs x ^ (i + 1) ≤ n % bs x ^ (i + 1) + x.sub.toNat ∧ n / bs x ^ (i + 1) + 1 < bs x)) :
    wordsB x n = if n % bs x ^ (i + 1) = 0 then headR x (n / bs x ^ (i + 1)) i
      else if x.sf then wordsB x (n % bs x ^ (i + 1)) ++ (joL x ++ headR x (n / bs x ^ (i + 1)) i)
      else headR x (n / bs x ^ (i + 1)) i ++ (joL x ++ wordsB x (n % bs x ^ (i + 1))) := by
  have hp := h.pow i
  have hr : n % bs x ^ (i + 1) < bs x ^ (i + 1) := Nat.mod_lt _ (by omega)
  rw [words_at hi h2, W, if_neg (by omega), if_neg hc, col_head h hi, ← head_eq h (quot_pos h h1) (quot_lt h h2) hi,
    show wordsB x (n % bs x ^ (i + 1)) = W x i (n % bs x ^ (i + 1)) from W_top (by omega) hr]
  split
  · rfl
  · split <;> rw [col_cons, col_cons, col_cons, col_nil, List.append_nil, head_keep h hi, W_keep, joL_eq]
/-- Without subtraction: the multiple, the joiner, the remainder. -/
theorem words_parts {x : Nm} (h : Len x) {i n : Nat} (hi : i < 3) (h1 : bs x ^ (i + 1) ≤ n) (h2 : n < bs x ^ (i + 1 + 1)) (h0 : x.sub = 0) (hr : n % bs x ^ (i + 1) ≠ 0) :
    wordsB x n = if x.sf then wordsB x (n % bs x ^ (i + 1)) ++ (joL x ++ wordsB x (n - n % bs x ^ (i + 1))) else wordsB x (n - n % bs x ^ (i + 1)) ++ (joL x ++ wordsB x (n % bs x ^ (i + 1))) := by
  have hq := quot_lt h h2
  have e : n - n % bs x ^ (i + 1) = n / bs x ^ (i + 1) * bs x ^ (i + 1) := by
    have := Nat.div_add_mod n (bs x ^ (i + 1))
    rw [Nat.mul_comm] at this
    omega
  rw [words_rest h hi h1 h2 (by omega), if_neg hr, e, words_mult h hi (quot_pos h h1) hq]
/-- A number just below a multiple, by what is missing. -/
theorem words_below {x : Nm} (h : Len x) {i k d : Nat} (hi : i < 3) (hk : 1 ≤ k) (hk2 : k + 1 < bs x) (hd : 1 ≤ d) (hd2 : d ≤ x.sub.toNat) :
    wordsB x (k * bs x ^ (i + 1) + bs x ^ (i + 1) - d) = wordsB x d ++ ([x.le] ++ wordsB x ((k + 1) * bs x ^ (i + 1))) := by
  have hs := sub_lt h
  have hp := h.pow i
  have hb : bs x ≤ bs x ^ (i + 1) := by
    calc bs x = bs x ^ 1 := by simp
      _ ≤ _ := pow_up (by have := h.b; omega) (by omega)
  have en : k * bs x ^ (i + 1) + bs x ^ (i + 1) - d = k * bs x ^ (i + 1) + (bs x ^ (i + 1) - d) := by omega
  have em : (k * bs x ^ (i + 1) + (bs x ^ (i + 1) - d)) % bs x ^ (i + 1) = bs x ^ (i + 1) - d := by
    rw [Nat.mul_add_mod_of_lt (by omega)]
  have eq : (k * bs x ^ (i + 1) + (bs x ^ (i + 1) - d)) / bs x ^ (i + 1) = k := by
    rw [Nat.mul_comm, Nat.mul_add_div (by omega), Nat.div_eq_of_lt (by omega), Nat.add_zero]
  have hge : bs x ^ (i + 1) ≤ k * bs x ^ (i + 1) := by
    have := Nat.mul_le_mul_right (bs x ^ (i + 1)) hk
    omega
  have hlt : (k + 1) * bs x ^ (i + 1) < bs x ^ (i + 1 + 1) := by
    rw [Nat.pow_succ (n := bs x) (m := i + 1), Nat.mul_comm (bs x ^ (i + 1))]
    exact Nat.mul_lt_mul_of_pos_right hk2 (by omega)
  rw [Nat.add_mul] at hlt
  rw [en, words_sub h hi (by omega) (by omega) (by rw [em, eq]; omega), em, eq]
  congr 2
  omega

/-- A system with other tokens. -/
def mapN (g : BA → BA) (x : Nm) : Nm := { x with ds := x.ds.map g, ps := x.ps.map g, jo := g x.jo, le := g x.le }
theorem filter_map {g : BA → BA} (hg : ∀ s, neB (g s) = neB s) : ∀ l : List BA, (l.map g).filter neB = (l.filter neB).map g
  | [] => rfl
  | s :: l => by
    rw [List.map_cons, List.filter_cons, List.filter_cons, filter_map hg l, hg]
    cases neB s <;> rfl
theorem col_map {g : BA → BA} (hg : ∀ s, neB (g s) = neB s) : ∀ ls : List (List BA), col (ls.map (List.map g)) = (col ls).map g
  | [] => rfl
  | l :: ls => by rw [List.map_cons, col_cons, col_cons, List.map_append, col_map hg ls, filter_map hg]
theorem getD_map {g : BA → BA} (h0 : g ByteArray.empty = ByteArray.empty) (l : List BA) (n : Nat) : (l.map g).getD n ByteArray.empty = g (l.getD n ByteArray.empty) := by
  rw [List.getD_eq_getElem?_getD, List.getD_eq_getElem?_getD, List.getElem?_map]
  cases l[n]?
  · exact h0.symm
  · rfl
theorem dig_map {g : BA → BA} (hg : ∀ s, neB (g s) = neB s) (h0 : g ByteArray.empty = ByteArray.empty) (x : Nm) (n : Nat) : dig (mapN g x) n = (dig x n).map g := by
  unfold dig
  rw [← col_map hg, show (mapN g x).ds = x.ds.map g from rfl, getD_map h0]; rfl
theorem headW_map {g : BA → BA} (hg : ∀ s, neB (g s) = neB s) (h0 : g ByteArray.empty = ByteArray.empty) (x : Nm) (q k : Nat) : headW (mapN g x) q k = (headW x q k).map g := by
  unfold headW
  rw [show (mapN g x).om = x.om from rfl, show (mapN g x).ps = x.ps.map g from rfl, getD_map h0, dig_map hg h0]
  split
  · rw [← col_map hg]; rfl
  · rfl
/-- The words in the other tokens are the other tokens of the words. -/
theorem W_map {g : BA → BA} (hg : ∀ s, neB (g s) = neB s) (h0 : g ByteArray.empty = ByteArray.empty) (x : Nm) : ∀ k n, W (mapN g x) k n = (W x k n).map g
  | 0, n => dig_map hg h0 x n
  | k + 1, n => by
    have hb : bs (mapN g x) = bs x := rfl
    rw [W, W, hb, show (mapN g x).sub = x.sub from rfl, show (mapN g x).sf = x.sf from rfl, show (mapN g x).jo = g x.jo from rfl, show (mapN g x).le = g x.le from rfl]
    simp only [headW_map hg h0, dig_map hg h0, W_map hg h0 x k]
    have e1 : ∀ q, col [(headW x q k).map g] = (col [headW x q k]).map g := fun q => by rw [← col_map hg]; rfl
    have e2 : ∀ a b c : List BA, col [a.map g, b.map g, c.map g] = (col [a, b, c]).map g := fun a b c => by rw [← col_map hg]; rfl
    have e3 : ∀ s : BA, [g s] = [s].map g := fun _ => rfl
    simp only [e1, e2, e3]
    split
    · rfl
    · split
      · rfl
      · split
        · rfl
        · split <;> rfl
theorem words_map {g : BA → BA} (hg : ∀ s, neB (g s) = neB s) (h0 : g ByteArray.empty = ByteArray.empty) (x : Nm) (n : Nat) : wordsB (mapN g x) n = (wordsB x n).map g := W_map hg h0 x 3 n

/-- All words of a number are tokens of the system. -/
theorem col_sub {P : BA → Prop} {ls : List (List BA)} (h : ∀ l ∈ ls, ∀ s ∈ l, neB s = true → P s) : ∀ s ∈ col ls, P s := by
  intro s hs
  unfold col at hs
  rw [List.mem_filter, List.mem_flatten] at hs
  obtain ⟨⟨l, h1, h2⟩, h3⟩ := hs
  exact h l h1 s h2 h3
def vocL (x : Nm) : List BA := col [x.ds, x.ps, [x.jo, x.le]]
theorem getD_mem {l : List BA} {n : Nat} (h : neB (l.getD n ByteArray.empty) = true) : l.getD n ByteArray.empty ∈ l := by
  rw [List.getD_eq_getElem?_getD] at h ⊢
  cases e : l[n]?
  · rw [e] at h; simp [neB] at h
  · rw [Option.getD_some]; exact List.mem_of_getElem? e
theorem voc_ds {x : Nm} {s : BA} (h : s ∈ x.ds) (hn : neB s = true) : s ∈ vocL x := by
  unfold vocL col
  rw [List.mem_filter]
  exact ⟨by simp [h], hn⟩
theorem voc_ps {x : Nm} {s : BA} (h : s ∈ x.ps) (hn : neB s = true) : s ∈ vocL x := by
  unfold vocL col
  rw [List.mem_filter]
  exact ⟨by simp [h], hn⟩
theorem voc_jo {x : Nm} (hn : neB x.jo = true) : x.jo ∈ vocL x := by
  unfold vocL col
  rw [List.mem_filter]
  exact ⟨by simp, hn⟩
theorem voc_le {x : Nm} (hn : neB x.le = true) : x.le ∈ vocL x := by
  unfold vocL col
  rw [List.mem_filter]
  exact ⟨by simp, hn⟩
theorem dig_voc {x : Nm} {n : Nat} : ∀ s ∈ dig x n, s ∈ vocL x := by
  unfold dig
  refine col_sub fun l hl s hs hn => ?_
  rw [List.mem_singleton] at hl
  subst hl
  rw [List.mem_singleton] at hs
  subst hs
  exact voc_ds (getD_mem hn) hn
theorem headW_voc {x : Nm} {q k : Nat} : ∀ s ∈ headW x q k, neB s = true → s ∈ vocL x := by
  intro s hs hn
  unfold headW at hs
  split at hs
  · refine col_sub (P := fun s => s ∈ vocL x) (fun l hl s hs hn => ?_) s hs
    rcases List.mem_cons.1 hl with rfl | hl
    · exact dig_voc s hs
    · rw [List.mem_singleton] at hl
      subst hl
      rw [List.mem_singleton] at hs
      subst hs
      exact voc_ps (getD_mem hn) hn
  · rw [List.mem_singleton] at hs
    subst hs
    exact voc_ps (getD_mem hn) hn
theorem W_voc {x : Nm} : ∀ {k n : Nat}, ∀ s ∈ W x k n, s ∈ vocL x
  | 0, n => dig_voc
  | k + 1, n => by
    have hc : ∀ q, ∀ s ∈ col [headW x q k], s ∈ vocL x := fun q => col_sub fun l hl s hs hn => by
      rw [List.mem_singleton] at hl
      subst hl
      exact headW_voc s hs hn
    rw [W]
    split
    · exact W_voc
    · split
      · refine col_sub fun l hl s hs hn => ?_
        simp only [List.mem_cons, List.not_mem_nil, or_false] at hl
        rcases hl with rfl | rfl | rfl
        · exact dig_voc s hs
        · rw [List.mem_singleton] at hs; subst hs; exact voc_le hn
        · exact hc _ s hs
      · split
        · exact hc _
        · split
          · refine col_sub fun l hl s hs hn => ?_
            simp only [List.mem_cons, List.not_mem_nil, or_false] at hl
            rcases hl with rfl | rfl | rfl
            · exact W_voc s hs
            · rw [List.mem_singleton] at hs; subst hs; exact voc_jo hn
            · exact headW_voc s hs hn
          · refine col_sub fun l hl s hs hn => ?_
            simp only [List.mem_cons, List.not_mem_nil, or_false] at hl
            rcases hl with rfl | rfl | rfl
            · exact headW_voc s hs hn
            · rw [List.mem_singleton] at hs; subst hs; exact voc_jo hn
            · exact W_voc s hs
theorem words_voc {x : Nm} {n : Nat} : ∀ s ∈ wordsB x n, s ∈ vocL x := W_voc

/-- Concatenated letters, each of one byte, say what the letters are. -/
theorem letters_inj : ∀ {a b : List (List UInt8)}, (∀ s ∈ a, s.length = 1) → (∀ s ∈ b, s.length = 1) → a.flatten = b.flatten → a = b
  | [], [], _, _, _ => rfl
  | [], s :: b, _, hb, h => by
    have h1 := hb s (by simp)
    rw [List.flatten_nil, List.flatten_cons] at h
    have h2 := congrArg List.length h
    rw [List.length_append, List.length_nil] at h2
    omega
  | s :: a, [], ha, _, h => by
    have h1 := ha s (by simp)
    rw [List.flatten_nil, List.flatten_cons] at h
    have h2 := congrArg List.length h
    rw [List.length_append, List.length_nil] at h2
    omega
  | s :: a, t :: b, ha, hb, h => by
    rw [List.flatten_cons, List.flatten_cons] at h
    have hl : s.length = t.length := by rw [ha s (by simp), hb t (by simp)]
    obtain ⟨h1, h2⟩ := List.append_inj h hl
    rw [h1, letters_inj (fun s hs => ha s (List.mem_cons_of_mem _ hs)) (fun s hs => hb s (List.mem_cons_of_mem _ hs)) h2]
theorem map_inj_on {g : BA → BA} {P : BA → Prop} (hg : ∀ s t, P s → P t → g s = g t → s = t) : ∀ {a b : List BA}, (∀ s ∈ a, P s) → (∀ s ∈ b, P s) → a.map g = b.map g → a = b
  | [], [], _, _, _ => rfl
  | [], _ :: _, _, _, h => by simp at h
  | _ :: _, [], _, _, h => by simp at h
  | s :: a, t :: b, ha, hb, h => by
    rw [List.map_cons, List.map_cons, List.cons.injEq] at h
    rw [hg s t (ha s (by simp)) (hb t (by simp)) h.1, map_inj_on hg (fun s hs => ha s (List.mem_cons_of_mem _ hs)) (fun s hs => hb s (List.mem_cons_of_mem _ hs)) h.2]
/-- Two numbers have the same words exactly if the letters of their words are the same. -/
theorem same_words {g : BA → BA} {x : Nm} (hg : ∀ s t, s ∈ vocL x → t ∈ vocL x → g s = g t → s = t) (h1 : ∀ s ∈ vocL x, (g s).data.toList.length = 1) {a b : Nat} :
    (((wordsB x a).map g).map (fun s => s.data.toList)).flatten = (((wordsB x b).map g).map (fun s => s.data.toList)).flatten ↔ wordsB x a = wordsB x b := by
  constructor
  · intro h
    have hl : ∀ n, ∀ s ∈ ((wordsB x n).map g).map (fun s => s.data.toList), s.length = 1 := by
      intro n s hs
      rw [List.mem_map] at hs
      obtain ⟨t, ht, rfl⟩ := hs
      rw [List.mem_map] at ht
      obtain ⟨u, hu, rfl⟩ := ht
      exact h1 u (words_voc u hu)
    have e := letters_inj (hl a) (hl b) h
    have e2 : (wordsB x a).map g = (wordsB x b).map g := by
      refine map_inj_on (g := id) (P := fun _ => True) (fun s t _ _ h => h) (by simp) (by simp) ?_
      rw [List.map_id, List.map_id]
      have hj : ∀ {p q : List BA}, p.map (fun s => s.data.toList) = q.map (fun s => s.data.toList) → p = q := by
        intro p
        induction p with
        | nil => intro q hq; cases q with
          | nil => rfl
          | cons _ _ => simp at hq
        | cons s p ih => intro q hq; cases q with
          | nil => simp at hq
          | cons t q =>
            rw [List.map_cons, List.map_cons, List.cons.injEq] at hq
            rw [ih hq.2]
            congr 1
            exact ByteArray.ext (Array.toList_inj.1 hq.1)
      exact hj e
    exact map_inj_on hg (fun s hs => words_voc s hs) (fun s hs => words_voc s hs) e2
  · intro h; rw [h]
/-- Read number by number: all numbers from 0 to 9999 with these words. -/
theorem numL_scan {x : Nm} (h : Len x) (toks : List BA) : numL x 3 toks = ((List.range 10000).filter (fun n => decide (wordsB x n = toks))).map Int.ofNat := by
  unfold numL
  refine congrArg (List.map Int.ofNat) (List.filter_congr fun n hn => ?_)
  rw [List.mem_range] at hn
  have hb : 10 ^ 4 ≤ bs x ^ (3 + 1) := Nat.pow_le_pow_left (by have := h.b; omega) 4
  have : n < bs x ^ (3 + 1) := by omega
  simp [this]
/-- The words of a number read as that number, and as others with the same words only. -/
theorem reads_back {x : Nm} (h : Len x) {k : Nat} (hk : k < 10000) : ((k : Int) ∈ numL x 3 (wordsB x k)) ∧ (∀ z ∈ numL x 3 (wordsB x k), 0 ≤ z ∧ z ≤ 9999 ∧ wordsB x z.toNat = wordsB x k) ∧ (numL x 3 (wordsB x k)).Pairwise (· < ·) := by
  refine ⟨(numL_all h).2 ⟨k, rfl, hk, rfl⟩, fun z hz => ?_, numL_sorted x 3 _⟩
  obtain ⟨n, rfl, h1, h2⟩ := (numL_all h).1 hz
  exact ⟨by omega, by omega, by simpa using h2⟩
theorem filter_one : ∀ {l : List Int} {p : Int → Bool} {k : Int}, l.Pairwise (· < ·) → k ∈ l → p k = true → (∀ z ∈ l, p z = true → z = k) → (l.filter p).length = 1
  | [], _, _, _, h, _, _ => by cases h
  | y :: l, p, k, hs, hm, hp, hu => by
    have hs' := List.pairwise_cons.1 hs
    rw [List.filter_cons]
    by_cases e : p y = true
    · have ey := hu y (by simp) e
      subst ey
      rw [if_pos e, List.length_cons]
      have : l.filter p = [] := by
        rw [List.filter_eq_nil_iff]
        intro z hz hpz
        have h1 := hu z (List.mem_cons_of_mem _ hz) hpz
        have h2 := hs'.1 z hz
        omega
      rw [this]; rfl
    · rw [if_neg e]
      rcases List.mem_cons.1 hm with rfl | hm
      · exact absurd hp e
      · exact filter_one hs'.2 hm hp fun z hz => hu z (List.mem_cons_of_mem _ hz)
/-- Where no two numbers up to a limit have the same words, one number up to it has the words of a number. -/
theorem one_number {x : Nm} (h : Len x) {k most : Nat} (hm : most ≤ 9999) (hk : k ≤ most) (hc : ∀ a b, a < b → b ≤ most → wordsB x a ≠ wordsB x b) :
    ((numL x 3 (wordsB x k)).filter (fun z => decide (z ≤ (most : Int)))).length = 1 := by
  obtain ⟨h1, h2, h3⟩ := reads_back h (k := k) (by omega)
  refine filter_one (k := (k : Int)) h3 h1 (by simp; omega) fun z hz hp => ?_
  obtain ⟨a1, a2, a3⟩ := h2 z hz
  rw [decide_eq_true_eq] at hp
  rcases Nat.lt_trichotomy z.toNat k with h' | h' | h'
  · exact absurd a3 (hc _ _ h' hk)
  · omega
  · exact absurd a3.symm (hc _ _ h' (by omega))
/-- What a search for the first two numbers with the same words finds among the numbers below m: the smallest second one, and the first with its words. -/
def clashB (w : Nat → List BA) : Nat → Option (Nat × Nat)
  | 0 => none
  | b + 1 => match clashB w b with
    | some r => some r
    | none => ((List.range b).find? (fun a => decide (w a = w b))).map (·, b)
theorem clash_none {w : Nat → List BA} : ∀ {m : Nat}, clashB w m = none ↔ ∀ a b, a < b → b < m → w a ≠ w b
  | 0 => by simp [clashB]
  | m + 1 => by
    unfold clashB
    cases e : clashB w m with
    | some r =>
      constructor
      · intro h; cases h
      · intro h
        have := (clash_none (w := w) (m := m)).2 (fun a b h1 h2 => h a b h1 (by omega))
        rw [this] at e; cases e
    | none =>
      have hn := clash_none.1 e
      simp only [Option.map_eq_none_iff, List.find?_eq_none, List.mem_range, decide_eq_true_eq]
      constructor
      · intro h a b h1 h2
        by_cases hb : b = m
        · subst hb; exact h a h1
        · exact hn a b h1 (by omega)
      · intro h a h1; exact h a m h1 (by omega)
theorem clash_some {w : Nat → List BA} {a b : Nat} : ∀ {m : Nat}, clashB w m = some (a, b) → a < b ∧ b < m ∧ w a = w b ∧ clashB w b = none
  | 0, h => by cases h
  | m + 1, h => by
    unfold clashB at h
    cases e : clashB w m with
    | some r =>
      rw [e] at h
      cases h
      obtain ⟨h1, h2, h3, h4⟩ := clash_some e
      exact ⟨h1, by omega, h3, h4⟩
    | none =>
      rw [e] at h
      simp only [Option.map_eq_some_iff, Prod.mk.injEq] at h
      obtain ⟨a', h1, rfl, rfl⟩ := h
      have h2 := List.find?_some h1
      have h3 := List.mem_of_find?_eq_some h1
      rw [List.mem_range] at h3
      rw [decide_eq_true_eq] at h2
      exact ⟨h3, by omega, h2, e⟩
theorem clash_up {w : Nat → List BA} {r : Nat × Nat} : ∀ {m k : Nat}, m ≤ k → clashB w m = some r → clashB w k = some r
  | m, 0, hk, h => by
    have : m = 0 := by omega
    subst this; exact h
  | m, k + 1, hk, h => by
    by_cases e : m = k + 1
    · subst e; exact h
    · unfold clashB
      rw [clash_up (by omega : m ≤ k) h]
/-- A step of a search that knows the only number with the words, if there is one. -/
theorem clash_step {w : Nat → List BA} {a b : Nat} (h0 : clashB w b = none) (ha : a < b) (he : w a = w b) : clashB w (b + 1) = some (a, b) := by
  unfold clashB
  rw [h0]
  cases e : (List.range b).find? (fun a => decide (w a = w b)) with
  | none =>
    rw [List.find?_eq_none] at e
    exact absurd he (by simpa using e a (List.mem_range.2 ha))
  | some a' =>
    have h2 := List.find?_some e
    have h3 := List.mem_of_find?_eq_some e
    rw [List.mem_range] at h3
    rw [decide_eq_true_eq] at h2
    have : a' = a := by
      rcases Nat.lt_trichotomy a' a with h | h | h
      · exact absurd (h2.trans he.symm) (clash_none.1 h0 _ _ h ha)
      · exact h
      · exact absurd (he.trans h2.symm) (clash_none.1 h0 _ _ h h3)
    rw [this]; rfl
theorem clash_next {w : Nat → List BA} {b : Nat} (h0 : clashB w b = none) (hn : ∀ a, a < b → w a ≠ w b) : clashB w (b + 1) = none := by
  rw [clash_none]
  intro a c h1 h2
  by_cases e : c = b
  · subst e; exact hn a h1
  · exact clash_none.1 h0 a c h1 (by omega)
end Go.Proofs.YtdehghmpfkhljaaDoor
