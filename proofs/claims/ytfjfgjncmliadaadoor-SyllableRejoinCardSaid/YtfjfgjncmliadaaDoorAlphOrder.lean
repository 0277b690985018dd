/-
  Compare is a total order on strings of valid UTF-8: plain mathematics, and the reference's UTF8. Conditions: as each theorem says.
-/
import Derived.Test.YtfjfgjncmliadaaDoorAlphRefCompare
import Derived.Lib.MapLaws
namespace Go.Proofs.YtfjfgjncmliadaaDoor
open Go.RowKit
open AlphPlain

/-- The lexicographic order of lists of numbers. -/
def lexI : List Int → List Int → Int
  | [], [] => 0
  | [], _ :: _ => -1
  | _ :: _, [] => 1
  | a :: x, b :: y => if a = b then lexI x y else if a < b then -1 else 1

theorem lexI_range : ∀ x y, -1 ≤ lexI x y ∧ lexI x y ≤ 1
  | [], [] => by simp [lexI]
  | [], _ :: _ => by simp [lexI]
  | _ :: _, [] => by simp [lexI]
  | a :: x, b :: y => by
    rw [lexI]
    split
    · exact lexI_range x y
    · split <;> omega
theorem lexI_neg : ∀ x y, lexI y x = - lexI x y
  | [], [] => rfl
  | [], _ :: _ => rfl
  | _ :: _, [] => rfl
  | a :: x, b :: y => by
    rw [lexI, lexI]
    by_cases h : a = b
    · rw [if_pos h, if_pos h.symm]; exact lexI_neg x y
    · rw [if_neg h, if_neg (Ne.symm h)]
      by_cases h1 : a < b
      · rw [if_pos h1, if_neg (by omega)]; rfl
      · rw [if_neg h1, if_pos (by omega)]
theorem lexI_zero : ∀ x y, lexI x y = 0 ↔ x = y
  | [], [] => by simp [lexI]
  | [], _ :: _ => by simp [lexI]
  | _ :: _, [] => by simp [lexI]
  | a :: x, b :: y => by
    rw [lexI]
    by_cases h : a = b
    · rw [if_pos h, lexI_zero x y]; simp [h]
    · rw [if_neg h]
      constructor
      · intro e; split at e <;> omega
      · intro e; simp at e; exact absurd e.1 h
theorem lexI_trans : ∀ x y z, lexI x y ≤ 0 → lexI y z ≤ 0 → lexI x z ≤ 0
  | [], _, [], _, _ => by simp [lexI]
  | [], _, _ :: _, _, _ => by simp [lexI]
  | _ :: _, [], _, h, _ => by simp [lexI] at h
  | _ :: _, _ :: _, [], _, h => by simp [lexI] at h
  | a :: x, b :: y, c :: z, h, k => by
    rw [lexI] at h k ⊢
    by_cases h1 : a = b
    · subst h1
      rw [if_pos rfl] at h
      by_cases h2 : a = c
      · subst h2
        rw [if_pos rfl] at k ⊢
        exact lexI_trans x y z h k
      · rw [if_neg h2] at k ⊢; exact k
    · rw [if_neg h1] at h
      have hab : a < b := by
        by_cases e : a < b
        · exact e
        · rw [if_neg e] at h; omega
      by_cases h2 : b = c
      · subst h2
        rw [if_neg h1, if_pos hab]; omega
      · rw [if_neg h2] at k
        have hbc : b < c := by
          by_cases e : b < c
          · exact e
          · rw [if_neg e] at k; omega
        rw [if_neg (by omega), if_pos (by omega)]; omega

/-- Letters by their indices, before all other runes. -/
def key (ls : List Lt) (r : Int) : Int := if AlphPlain.has ls r then (pos ls r : Nat) - (ls.length : Int) else r

theorem pos_lt {ls : List Lt} {r : Int} (h : AlphPlain.has ls r = true) : pos ls r < ls.length := by
  obtain ⟨l, hl, _⟩ := pos_get h
  exact (List.getElem?_eq_some_iff.1 hl).1
theorem key_inj {ls : List Lt} {r o : Int} (h0 : 0 ≤ r) (h1 : 0 ≤ o) (h : key ls r = key ls o) : r = o := by
  unfold key at h
  cases hr : AlphPlain.has ls r <;> cases ho : AlphPlain.has ls o <;> rw [hr, ho] at h <;> simp at h
  · exact h
  · have := pos_lt ho; omega
  · have := pos_lt hr; omega
  · obtain ⟨l, hl, e1⟩ := pos_get hr
    obtain ⟨m, hm, e2⟩ := pos_get ho
    have : pos ls r = pos ls o := by omega
    rw [this, hm] at hl
    cases hl
    exact e1.symm.trans e2
theorem cmpRunes_key {ls : List Lt} {r o : Int} (h0 : 0 ≤ r) (h1 : 0 ≤ o) (hne : r ≠ o) : cmpRunes ls r o = if key ls r < key ls o then -1 else 1 := by
  have hk : key ls r ≠ key ls o := fun e => hne (key_inj h0 h1 e)
  unfold cmpRunes sgn
  unfold key at hk ⊢
  cases hr : AlphPlain.has ls r <;> cases ho : AlphPlain.has ls o <;> rw [hr, ho] at hk <;> simp at hk ⊢
  · by_cases h : r < o
    · simp [h]
    · simp [h]; omega
  · have := pos_lt ho
    omega
  · have := pos_lt hr
    omega
  · by_cases h : pos ls r < pos ls o
    · rw [if_pos h, if_pos (by omega)]
    · rw [if_neg h, if_pos (by omega), if_neg (by omega)]

theorem runesL_pos (s : ByteArray) : ∀ b p, ∀ r ∈ runesL s b p, 0 ≤ r
  | 0, _, r, h => by cases h
  | b + 1, p, r, h => by
    rw [runesL] at h
    split at h
    · rcases List.mem_cons.1 h with rfl | h
      · omega
      · exact runesL_pos s b _ r h
    · cases h
theorem cmpLs_key (ls : List Lt) : ∀ x y : List Int, (∀ r ∈ x, 0 ≤ r) → (∀ r ∈ y, 0 ≤ r) → cmpLs ls x y = lexI (x.map (key ls)) (y.map (key ls))
  | [], [], _, _ => rfl
  | [], _ :: _, _, _ => rfl
  | _ :: _, [], _, _ => rfl
  | r :: x, o :: y, hx, hy => by
    have h0 := hx r (by simp)
    have h1 := hy o (by simp)
    rw [cmpLs, List.map_cons, List.map_cons, lexI]
    by_cases h : r = o
    · subst h
      rw [if_pos rfl, if_pos rfl]
      exact cmpLs_key ls x y (fun a ha => hx a (by simp [ha])) (fun a ha => hy a (by simp [ha]))
    · rw [if_neg h, if_neg (fun e => h (key_inj h0 h1 e)), cmpRunes_key h0 h1 h]
theorem map_key_inj (ls : List Lt) : ∀ x y : List Int, (∀ r ∈ x, 0 ≤ r) → (∀ r ∈ y, 0 ≤ r) → x.map (key ls) = y.map (key ls) → x = y
  | [], [], _, _, _ => rfl
  | [], _ :: _, _, _, h => by simp at h
  | _ :: _, [], _, _, h => by simp at h
  | r :: x, o :: y, hx, hy, h => by
    simp only [List.map_cons, List.cons.injEq] at h
    rw [key_inj (hx r (by simp)) (hy o (by simp)) h.1, map_key_inj ls x y (fun a ha => hx a (by simp [ha])) (fun a ha => hy a (by simp [ha])) h.2]

/-- No U+FFFD from p on but where its three bytes stand. -/
def okAt (s : ByteArray) (p : Nat) : Bool := if (Utf8.decode s p).1 = 65533 then decide (p + 3 ≤ s.size) && decide (s.extract p (p + 3) = ⟨#[239, 191, 189]⟩) else true
def utfAt (s : ByteArray) : Nat → Nat → Bool
  | 0, _ => true
  | b + 1, p => if p < s.size then okAt s p && utfAt s b (p + (Utf8.decode s p).2) else true

theorem okAt_enc {s : ByteArray} {p : Nat} (hp : p < s.size) (h : okAt s p = true) : Lib.encodeRune ((Utf8.decode s p).1 : Int) = (s.data.toList.drop p).take (Utf8.decode s p).2 := by
  have hl : s.data.toList.length = s.size := Array.length_toList
  have hne : s.data.toList.drop p ≠ [] := by
    intro e
    have := congrArg List.length e
    simp [List.length_drop] at this
    have : s.data.size = s.size := rfl
    omega
  rw [← Lib.decodeL_drop]
  refine Lib.encode_decode _ hne ?_
  rintro ⟨e1, e2⟩
  rw [Lib.decodeL_drop] at e1 e2
  unfold okAt at h
  rw [if_pos e1] at h
  simp only [Bool.and_eq_true, decide_eq_true_eq] at h
  obtain ⟨h3, hx⟩ := h
  have hb : (s.data.toList.drop p).take 3 = [239, 191, 189] := by
    have := congrArg (fun z : ByteArray => z.data.toList) hx
    simp only [ByteArray.data_extract, Array.toList_extract, List.extract_eq_take_drop] at this
    simpa using this
  rw [← Lib.decodeL_drop] at e2
  generalize hL : s.data.toList.drop p = L at hb e2
  match L, hb with
  | a :: b :: c :: r, hb =>
    simp at hb
    obtain ⟨rfl, rfl, rfl⟩ := hb
    rw [Lib.decodeL_N] at e2
    simp [Lib.decodeN] at e2
  | [], hb => simp at hb
  | [_], hb => simp at hb
  | [_, _], hb => simp at hb

theorem drop_end {s : ByteArray} {p : Nat} (h : ¬ p < s.size) : s.data.toList.drop p = [] := List.drop_of_length_le (by rw [Array.length_toList]; exact Nat.le_of_not_lt h)
theorem len_take {s : ByteArray} {p : Nat} (h : p < s.size) : ((s.data.toList.drop p).take (Utf8.decode s p).2).length = (Utf8.decode s p).2 := by
  have := decode_fits s p h
  rw [List.length_take, List.length_drop, Array.length_toList]
  have e : s.data.size = s.size := rfl
  omega

theorem utf_inj (s t : ByteArray) : ∀ (b c p q : Nat), s.size ≤ p + b → t.size ≤ q + c → utfAt s b p = true → utfAt t c q = true → runesL s b p = runesL t c q → s.data.toList.drop p = t.data.toList.drop q
  | 0, c, p, q, hb, hc, _, _, h => by
    rw [drop_end (by omega)]
    by_cases hq : q < t.size
    · obtain ⟨c, rfl⟩ : ∃ c', c = c' + 1 := ⟨c - 1, by omega⟩
      rw [runesL, runesL, if_pos hq] at h
      cases h
    · rw [drop_end hq]
  | b + 1, c, p, q, hb, hc, hu, hv, h => by
    by_cases hp : p < s.size
    · rw [runesL, if_pos hp] at h
      rw [utfAt, if_pos hp, Bool.and_eq_true] at hu
      by_cases hq : q < t.size
      · obtain ⟨c, rfl⟩ : ∃ c', c = c' + 1 := ⟨c - 1, by omega⟩
        rw [runesL, if_pos hq] at h
        rw [utfAt, if_pos hq, Bool.and_eq_true] at hv
        simp only [List.cons.injEq] at h
        have e1 := okAt_enc hp hu.1
        have e2 := okAt_enc hq hv.1
        rw [h.1] at e1
        have et := e1.symm.trans e2
        have ew : (Utf8.decode s p).2 = (Utf8.decode t q).2 := by rw [← len_take hp, ← len_take hq, et]
        have w1 := width_pos s p hp
        have ih := utf_inj s t b c _ _ (by omega) (by omega) hu.2 hv.2 h.2
        rw [← List.take_append_drop (Utf8.decode s p).2 (s.data.toList.drop p), ← List.take_append_drop (Utf8.decode t q).2 (t.data.toList.drop q), et, List.drop_drop, List.drop_drop, ih]
      · rw [runesL_end hq] at h; cases h
    · rw [drop_end hp]
      rw [runesL_end hp] at h
      by_cases hq : q < t.size
      · obtain ⟨c, rfl⟩ : ∃ c', c = c' + 1 := ⟨c - 1, by omega⟩
        rw [runesL, if_pos hq] at h
        cases h
      · rw [drop_end hq]

def utfB (s : ByteArray) : Bool := utfAt s s.size 0
theorem runes_inj {s t : ByteArray} (hs : utfB s = true) (ht : utfB t = true) (h : runesOf s = runesOf t) : s = t := by
  have := utf_inj s t _ _ 0 0 (by omega) (by omega) hs ht h
  simp only [List.drop_zero] at this
  exact WideShapes.bytes_inj this

theorem slice3 (s : ByteArray) (p : Nat) (h : p + 3 ≤ s.size) (w : World) : (Instr.slice 9 (.string s) (some (.int .i64 (p : Int))) (some (.int .i64 ((p : Int) + 3))) none).run Tryd.prog w = .ok (.string (s.extract p (p + 3))) w := by
  have e := run_slice_string (P := Tryd.prog) (w := w) 9 s .i64 .i64 (p : Int) ((p : Int) + 3) Tryd.underlying9 (by omega) (by omega) (by omega)
  rw [e]
  rfl

set_option maxRecDepth 100000 in
set_option maxHeartbeats 800000 in
theorem refUtf_any (s : ByteArray) (hs : s.size ≤ 200) (w : World) :
    Calls Tryd.prog 49 #[.string s] w (BoolPost w (utfB s)) := by
  go_enter Tryd.func49, Tryd.ntmps49
  go_wp2
  go_loopw [4] (fun _ wr => ∃ (p b : Nat), wr.heap[w.heap.size]? = some (.stringIter s p) ∧ utfB s = utfAt s b p ∧ s.size ≤ p + b ∧ Aft w wr) (fun _ wr => s.size - wr.iterPos w.heap.size)
  case atStart => exact ⟨0, s.size, World.iter_heap _ _ _, rfl, by omega, (Aft.refl _).alloc _⟩
  case round =>
    obtain ⟨p, b, hit, he, hb, haf⟩ := hrel
    have HE := Lib.hid he
    clear he
    by_cases hlt : p < s.size
    · have hnx := fun ty => Lib.run_next_any_at (P := Tryd.prog) wr w.heap.size s p ty hit hlt
      have hwp := width_pos s p hlt
      obtain ⟨b, rfl⟩ : ∃ b', b = b' + 1 := ⟨b - 1, by omega⟩
      have he1 := HE.out
      rw [utfAt, if_pos hlt] at he1
      have af1 := iter_aft haf (Nat.le_refl _) s (p + (Utf8.decode s p).2)
      have it1 := Lib.iterAt_heap wr w.heap.size s p (p + (Utf8.decode s p).2) hit
      clear HE
      unfold okAt at he1
      generalize Utf8.decode s p = ds at *
      by_cases hr : ds.1 = 65533
      · rw [if_pos hr] at he1
        have hri : (ds.1 : Int) = 65533 := by omega
        by_cases h3 : p + 3 ≤ s.size
        · have hsl := slice3 s p h3
          by_cases hx : s.extract p (p + 3) = ⟨#[239, 191, 189]⟩
          · rw [hx] at hsl
            rw [decide_eq_true h3, decide_eq_true hx] at he1
            have HE := Lib.hid he1
            have HI := Lib.hid it1
            have HR := Lib.hid hr
            clear he1 it1 hr
            have h3' : ¬ ((s.size : Int) < (p : Int) + 3) := by omega
            go_wp2
            go_roundw
            case rel => exact ⟨p + ds.2, b, HI.out, by rw [HE.out]; rfl, by omega, af1⟩
            case measure =>
              simp only [World.iterPos, HI.out, hit]
              omega
          · have hxl : ((s.extract p (p + 3)).toList == [239, 191, 189]) = false := by
              rw [beq_eq_false_iff_ne]
              intro e
              refine hx (WideShapes.bytes_inj ?_)
              rw [ByteArray.toList_eq] at e
              exact e
            rw [decide_eq_false hx] at he1
            have HE := Lib.hid he1
            clear he1 it1 hr
            have h3' : ¬ ((s.size : Int) < (p : Int) + 3) := by omega
            go_wp2
            go_ret
            exact ⟨by rw [HE.out]; simp, af1⟩
        · rw [decide_eq_false h3] at he1
          have HE := Lib.hid he1
          clear he1 it1 hr
          have h3' : ((s.size : Int) < (p : Int) + 3) := by omega
          go_wp2
          go_ret
          exact ⟨by rw [HE.out]; rfl, af1⟩
      · rw [if_neg hr] at he1
        have hri : ¬ ((ds.1 : Int) = 65533) := by omega
        have HE := Lib.hid he1
        have HI := Lib.hid it1
        clear he1 it1
        go_wp2
        go_roundw
        case rel => exact ⟨p + ds.2, b, HI.out, by rw [HE.out]; rfl, by omega, af1⟩
        case measure =>
          simp only [World.iterPos, HI.out, hit]
          omega
    · have hnx := fun ty => Lib.run_next_end_at (P := Tryd.prog) wr w.heap.size s p ty hit hlt
      have he1 : utfB s = true := by
        rw [HE.out]
        cases b with
        | zero => rfl
        | succ b => rw [utfAt, if_neg hlt]
      have H2 := Lib.hid he1
      clear HE he1
      go_wp2
      go_ret
      exact ⟨by rw [H2.out]; rfl, haf⟩

theorem cmpL_key (ls : List Lt) (s t : ByteArray) : cmpL ls s t = lexI ((runesOf s).map (key ls)) ((runesOf t).map (key ls)) := by
  rw [cmpL_runes]
  exact cmpLs_key ls _ _ (runesL_pos s _ _) (runesL_pos t _ _)
theorem ord_range (ls : List Lt) (s t : ByteArray) : cmpL ls s t = -1 ∨ cmpL ls s t = 0 ∨ cmpL ls s t = 1 := by
  have := lexI_range ((runesOf s).map (key ls)) ((runesOf t).map (key ls))
  rw [cmpL_key]
  omega
theorem ord_neg (ls : List Lt) (s t : ByteArray) : cmpL ls t s = - cmpL ls s t := by rw [cmpL_key, cmpL_key, lexI_neg]
theorem ord_zero {ls : List Lt} {s t : ByteArray} (hs : utfB s = true) (ht : utfB t = true) (h : cmpL ls s t = 0) : s = t := by
  rw [cmpL_key, lexI_zero] at h
  exact runes_inj hs ht (map_key_inj ls _ _ (runesL_pos s _ _) (runesL_pos t _ _) h)
theorem ord_refl (ls : List Lt) (s : ByteArray) : cmpL ls s s = 0 := by rw [cmpL_key, lexI_zero]
theorem ord_trans {ls : List Lt} {s t u : ByteArray} (h : cmpL ls s t ≤ 0) (k : cmpL ls t u ≤ 0) : cmpL ls s u ≤ 0 := by
  rw [cmpL_key] at h k ⊢
  exact lexI_trans _ _ _ h k
theorem bytes_ne {s t : ByteArray} (h : s ≠ t) : (s.toList == t.toList) = false := by
  rw [beq_eq_false_iff_ne]
  intro e
  rw [ByteArray.toList_eq, ByteArray.toList_eq] at e
  exact h (WideShapes.bytes_inj e)
theorem three_strs (w : World) (s t u : ByteArray) : Ss (w.alloc (.cells #[.string s, .string t, .string u] 9)) (some ⟨w.heap.size, 0, none⟩) 3 3 [s, t, u] :=
  ⟨rfl, Nat.le_refl _, by omega, by omega, fun e => (by cases e), fun i x hi => by
    refine ⟨w.heap.size, 0, rfl, ?_⟩
    match i, hi with
    | 0, hi => simp at hi; subst hi; simp
    | 1, hi => simp at hi; subst hi; simp
    | 2, hi => simp at hi; subst hi; simp
    | i + 3, hi => simp at hi⟩
end Go.Proofs.YtfjfgjncmliadaaDoor
