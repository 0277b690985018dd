/-
  The reference's Compare: it compares the lists of runes; the program's does the same. few of a list of strings. Condition: the slices hold the letters and the strings; no string is longer than 2^46 bytes.
-/
import Derived.Test.YtgnhkacndmdfgaaDoorAlphCompare
import Derived.Test.YtgnhkacndmdfgaaDoorAlphSelect
import Derived.Laws.IdiomStrings
namespace Go.Proofs.YtgnhkacndmdfgaaDoor
open Go.RowKit
open AlphPlain

set_option maxRecDepth 100000 in
set_option maxHeartbeats 800000 in
/-- Index of the reference changes nothing. -/
theorem refIndexP_any (A : Option Addr) (n c : Nat) (ls : List Lt) (r : Int) (w : World) (ha : Ll w A n c ls) :
    Calls Tryd.prog 21 #[.slice A n c, .int .i32 r] w (fun e w' => e = .returned (.int .i64 (idxI ls r)) ∧ w = w') := by
  have hn := ha.max
  have hnc := ha.le
  have hlen := Lib.hid ha.len
  go_enter Tryd.func21, Tryd.ntmps21
  go_wp2
  go_loop [5] (fun i => ∃ k, k ≤ n ∧ i = .int .i64 (k : Nat) ∧ (∀ j m, j < k → ls[j]? = some m → m.1 ≠ r)) (fun i => n - (intOf i).toNat)
  case atStart => exact ⟨0, Nat.zero_le _, rfl, fun j m h => by omega⟩
  case round =>
    obtain ⟨k, hk, rfl, he⟩ := hrel
    have HE := Lib.hid he
    clear he
    by_cases hlt : k < n
    · obtain ⟨b, off, l, rfl, hf, c1, h2⟩ := ha.at_ hlt
      have HF := Lib.hid hf
      clear hf h2
      by_cases hq : l.1 = r
      · have HI := Lib.hid (idxI_some (idx_drop HE.out HF.out hq))
        go_wp2
        go_ret
        exact ⟨by rw [HI.out]; rfl, rfl⟩
      · go_wp2
        go_round
        case rel =>
          refine ⟨k + 1, by omega, by go_num, fun j m hj hm => ?_⟩
          by_cases e : j = k
          · subst e; rw [HF.out] at hm; cases hm; exact hq
          · exact HE.out j m (by omega) hm
        case measure => simp [intOf]; omega
    · obtain rfl : k = n := by omega
      have HI := Lib.hid (idxI_none (idx_absent (by rw [hlen.out]; exact HE.out)))
      go_wp2
      go_ret
      exact ⟨by rw [HI.out]; rfl, rfl⟩

def beforeB (ls : List Lt) (r o : Int) : Bool :=
  if AlphPlain.has ls r then (if AlphPlain.has ls o then decide (pos ls r < pos ls o) else true) else (if AlphPlain.has ls o then false else decide (r < o))

theorem idxI_has {ls : List Lt} {r : Int} (h : AlphPlain.has ls r = true) : idxI ls r = (pos ls r : Nat) := by simp [idxI, h]
theorem idxI_not {ls : List Lt} {r : Int} (h : AlphPlain.has ls r = false) : idxI ls r = -1 := by simp [idxI, h]

set_option maxHeartbeats 800000 in
theorem before_any (A : Option Addr) (n c : Nat) (ls : List Lt) (r o : Int) (w : World) (ha : Ll w A n c ls) :
    Calls Tryd.prog 46 #[.slice A n c, .int .i32 r, .int .i32 o] w (fun e w' => e = .returned (.bool (beforeB ls r o)) ∧ w = w') := by
  have h1 := refIndexP_any A n c ls r w ha
  have h2 := refIndexP_any A n c ls o w ha
  cases hr : AlphPlain.has ls r
  · rw [idxI_not hr] at h1
    cases ho : AlphPlain.has ls o
    · rw [idxI_not ho] at h2
      have HB := Lib.hid (show beforeB ls r o = decide (r < o) by simp [beforeB, hr, ho])
      go_enter Tryd.func46, Tryd.ntmps46
      go_wp2_with fail
      refine h1.mono ?_
      rintro e w1 ⟨rfl, rfl⟩
      go_wp2_with fail
      refine h2.mono ?_
      rintro e w1 ⟨rfl, rfl⟩
      clear h1 h2
      go_wp2
      go_ret
      exact ⟨by rw [HB.out]; rfl, rfl⟩
    · rw [idxI_has ho] at h2
      have HB := Lib.hid (show beforeB ls r o = false by simp [beforeB, hr, ho])
      generalize pos ls o = po at *
      go_enter Tryd.func46, Tryd.ntmps46
      go_wp2_with fail
      refine h1.mono ?_
      rintro e w1 ⟨rfl, rfl⟩
      go_wp2_with fail
      refine h2.mono ?_
      rintro e w1 ⟨rfl, rfl⟩
      clear h1 h2
      go_wp2
      go_ret
      exact ⟨by rw [HB.out]; first | rfl | simp, rfl⟩
  · rw [idxI_has hr] at h1
    cases ho : AlphPlain.has ls o
    · rw [idxI_not ho] at h2
      have HB := Lib.hid (show beforeB ls r o = true by simp [beforeB, hr, ho])
      generalize pos ls r = pr at *
      have hp0 : (0 : Int) ≤ (pr : Int) := by omega
      go_enter Tryd.func46, Tryd.ntmps46
      go_wp2_with fail
      refine h1.mono ?_
      rintro e w1 ⟨rfl, rfl⟩
      go_wp2_with fail
      refine h2.mono ?_
      rintro e w1 ⟨rfl, rfl⟩
      clear h1 h2
      go_wp2
      go_ret
      exact ⟨by rw [HB.out]; first | rfl | simp, rfl⟩
    · rw [idxI_has ho] at h2
      have HB := Lib.hid (show beforeB ls r o = decide (pos ls r < pos ls o) by simp [beforeB, hr, ho])
      generalize pos ls r = pr at *
      generalize pos ls o = po at *
      go_enter Tryd.func46, Tryd.ntmps46
      go_wp2_with fail
      refine h1.mono ?_
      rintro e w1 ⟨rfl, rfl⟩
      go_wp2_with fail
      refine h2.mono ?_
      rintro e w1 ⟨rfl, rfl⟩
      clear h1 h2
      go_wp2
      go_ret
      exact ⟨by rw [HB.out]; simp, rfl⟩

theorem cmpRunes_before {ls : List Lt} {r o : Int} (h : r ≠ o) : cmpRunes ls r o = if beforeB ls r o then -1 else 1 := by
  unfold cmpRunes beforeB sgn
  cases hr : AlphPlain.has ls r
  · cases ho : AlphPlain.has ls o
    · by_cases h1 : r < o
      · simp [h1]
      · have h2 : o < r := by omega
        simp [h1, h2]
    · simp
  · cases ho : AlphPlain.has ls o
    · simp
    · have hne : pos ls r ≠ pos ls o := by
        intro e
        obtain ⟨l, hl, e1⟩ := pos_get hr
        obtain ⟨m, hm, e2⟩ := pos_get ho
        rw [e, hm] at hl
        cases hl
        exact h (e1.symm.trans e2)
      by_cases h1 : pos ls r < pos ls o
      · have h1' : ((pos ls r : Nat) : Int) < (pos ls o : Nat) := by omega
        simp [h1]
      · have h2' : pos ls o < pos ls r := by omega
        simp [h1, h2']

/-- The runes of s from p on (b: at least as many rounds as there are bytes left). -/
def runesL (s : ByteArray) : Nat → Nat → List Int
  | 0, _ => []
  | b + 1, p => if p < s.size then ((Utf8.decode s p).1 : Int) :: runesL s b (p + (Utf8.decode s p).2) else []
def runesOf (s : ByteArray) : List Int := runesL s s.size 0

theorem runesFrom_eq (s : ByteArray) : ∀ (b p : Nat) (acc : Array Value), Conv.runesFrom s b p acc = acc ++ (runV (runesL s b p)).toArray
  | 0, p, acc => by simp [Conv.runesFrom, runesL, runV]
  | b + 1, p, acc => by
    unfold Conv.runesFrom runesL
    split
    · show Conv.runesFrom s b (p + (Utf8.decode s p).2) (acc.push (.int .i32 (Int.ofNat (Utf8.decode s p).1))) = _
      rw [runesFrom_eq s b]
      simp [runV]
    · simp [runV]

def cmpLs (ls : List Lt) : List Int → List Int → Int
  | [], [] => 0
  | [], _ :: _ => -1
  | _ :: _, [] => 1
  | r :: x, o :: y => if r = o then cmpLs ls x y else cmpRunes ls r o

theorem runesL_end {s : ByteArray} {p : Nat} (h : ¬ p < s.size) : ∀ b, runesL s b p = []
  | 0 => rfl
  | b + 1 => by rw [runesL, if_neg h]

theorem cmpAt_runes (ls : List Lt) (s t : ByteArray) : ∀ (b c p q : Nat), s.size ≤ p + b → t.size ≤ q + c → cmpAt ls s t b p q = cmpLs ls (runesL s b p) (runesL t c q)
  | 0, c, p, q, hb, hc => by
    rw [cmpAt, runesL]
    by_cases hq : q < t.size
    · obtain ⟨c, rfl⟩ : ∃ c', c = c' + 1 := ⟨c - 1, by omega⟩
      rw [if_pos hq, runesL, if_pos hq]; rfl
    · rw [if_neg hq, runesL_end hq]; rfl
  | b + 1, c, p, q, hb, hc => by
    rw [cmpAt, runesL]
    by_cases hp : p < s.size
    · rw [if_pos hp, if_pos hp]
      by_cases hq : q < t.size
      · obtain ⟨c, rfl⟩ : ∃ c', c = c' + 1 := ⟨c - 1, by omega⟩
        have w1 := width_pos s p hp
        have w2 := width_pos t q hq
        rw [if_pos hq, runesL, if_pos hq, cmpLs]
        by_cases he : (Utf8.decode s p).1 = (Utf8.decode t q).1
        · rw [if_pos he, if_pos (by omega), cmpAt_runes ls s t b c _ _ (by omega) (by omega)]
        · rw [if_neg he, if_neg (by omega)]
      · rw [if_neg hq, runesL_end hq]; rfl
    · rw [if_neg hp, if_neg hp]
      by_cases hq : q < t.size
      · obtain ⟨c, rfl⟩ : ∃ c', c = c' + 1 := ⟨c - 1, by omega⟩
        rw [if_pos hq, runesL, if_pos hq]; rfl
      · rw [if_neg hq, runesL_end hq]; rfl

theorem cmpL_runes (ls : List Lt) (s t : ByteArray) : cmpL ls s t = cmpLs ls (runesOf s) (runesOf t) := cmpAt_runes ls s t _ _ 0 0 (by omega) (by omega)

/-- The world with the runes of s laid anew. -/
def convC (s : ByteArray) (w : World) : Nat := grownCap w (Conv.runesFrom s s.size 0 #[]).size 0 21
def convW (s : ByteArray) (w : World) : World := w.drew.alloc (.cells (Conv.runesFrom s s.size 0 #[] ++ Array.replicate (convC s w - (Conv.runesFrom s s.size 0 #[]).size) (.int .i32 0)) 21)

theorem runes_size (s : ByteArray) : (Conv.runesFrom s s.size 0 #[]).size = (runesOf s).length := by rw [runesFrom_eq]; simp [runV, runesOf]
theorem conv_run (s : ByteArray) (hs : s.size ≤ 70368744177664) (w : World) : (convert 9 35 (.string s)).run Tryd.prog w = .ok (.slice (some ⟨w.heap.size, 0, none⟩) (runesOf s).length (convC s w)) (convW s w) := by
  rw [run_runes_of_string w _ _ 21 s Tryd.underlying9 Tryd.underlying35 Tryd.underlying21 (by have := size_runesFrom s s.size 0 #[]; simp at this; omega), runes_size]
  unfold convW convC
  rw [runes_size]
theorem conv_aft (s : ByteArray) (w : World) : Aft w (convW s w) := Aft.alloc (Below.drew (Aft.refl w)) _
theorem cell_new (w : World) (cs : Array Value) (t : TypeId) (i : Nat) : (w.alloc (.cells cs t)).cell? ⟨w.heap.size, i, none⟩ = cs[i]? := by
  simp
theorem conv_rr (s : ByteArray) (w : World) : Rr (convW s w) (some ⟨w.heap.size, 0, none⟩) (runesOf s).length (convC s w) (runesOf s) := by
  refine ⟨rfl, ?_, fun e => (by cases e), fun i r hi => ⟨_, _, rfl, ?_⟩⟩
  · have := grownCap_ge w (Conv.runesFrom s s.size 0 #[]).size 0 21
    unfold convC
    rw [runes_size] at this ⊢
    exact this
  · have hlt := (List.getElem?_eq_some_iff.1 hi).1
    show (w.drew.alloc _).cell? ⟨w.drew.heap.size, 0 + i, none⟩ = _
    rw [Nat.zero_add, cell_new, runesFrom_eq, Array.getElem?_append_left (by simp [runV]; exact hlt)]
    simp only [runV, Array.empty_append, List.getElem?_toArray, List.getElem?_map]
    rw [show runesL s s.size 0 = runesOf s from rfl, hi]; rfl

theorem Rr.at_ {w : World} {A : Option Addr} {n c k : Nat} {rs : List Int} (h : Rr w A n c rs) (hk : k < n) :
    ∃ b off r, A = some ⟨b, off, none⟩ ∧ rs[k]? = some r ∧ w.cell? ⟨b, off + k, none⟩ = some (.int .i32 r) := by
  have hl : k < rs.length := by have := h.len; omega
  have hi : rs[k]? = some rs[k] := List.getElem?_eq_getElem hl
  obtain ⟨b, off, hA, h1⟩ := h.cells k _ hi
  exact ⟨b, off, _, hA, hi, h1⟩

set_option maxRecDepth 100000 in
set_option maxHeartbeats 1600000 in
theorem refCompare_any (A : Option Addr) (n c : Nat) (ls : List Lt) (s t : ByteArray) (w : World) (ha : Ll w A n c ls) (hs : s.size ≤ 200) (ht : t.size ≤ 200) :
    Calls Tryd.prog 28 #[.slice A n c, .string s, .string t] w (ValPost w (.int .i64 (cmpLs ls (runesOf s) (runesOf t)))) := by
  have hX : (runesOf s).length ≤ 200 := by have := size_runesFrom s s.size 0 #[]; rw [runes_size] at this; simp at this; omega
  have hY : (runesOf t).length ≤ 200 := by have := size_runesFrom t t.size 0 #[]; rw [runes_size] at this; simp at this; omega
  have e1 := conv_run s (by omega)
  have e2 := conv_run t (by omega)
  have hnc := ha.le
  go_enter Tryd.func28, Tryd.ntmps28
  go_wp2
  have A1 := conv_aft s w
  have A2 := A1.trans (conv_aft t (convW s w))
  have r1 := (conv_rr s w).aft (conv_aft t (convW s w))
  have r2 := conv_rr t (convW s w)
  clear e1 e2
  generalize convC t (convW s w) = cY at *
  generalize convC s w = cX at *
  generalize (convW s w).heap.size = H2 at *
  generalize convW t (convW s w) = W at *
  generalize runesOf s = X at *
  generalize runesOf t = Y at *
  have hcx := r1.le
  have hcy := r2.le
  go_loopw [9] (fun i wr => ∃ k, k ≤ X.length ∧ k ≤ Y.length ∧ i = .int .i64 (k : Nat) ∧ cmpLs ls X Y = cmpLs ls (X.drop k) (Y.drop k) ∧ Aft W wr) (fun i _ => X.length - (intOf i).toNat)
  case atStart => exact ⟨0, Nat.zero_le _, Nat.zero_le _, rfl, by simp, Aft.refl _⟩
  case round =>
    obtain ⟨k, hkx, hky, rfl, he, haf⟩ := hrel
    have HE := Lib.hid he
    clear he
    by_cases hx : k < X.length
    · by_cases hy : k < Y.length
      · obtain ⟨b1, o1, r, hA1, hf1, g1⟩ := r1.at_ hx
        obtain ⟨b2, o2, q, hA2, hf2, g2⟩ := r2.at_ hy
        simp only [Option.some.injEq, Addr.mk.injEq, and_true] at hA1 hA2
        obtain ⟨rfl, rfl⟩ := hA1
        obtain ⟨rfl, rfl⟩ := hA2
        have c1 := haf.cell g1
        have c2 := haf.cell g2
        rw [Nat.zero_add] at c1 c2
        have hd : cmpLs ls X Y = if r = q then cmpLs ls (X.drop (k + 1)) (Y.drop (k + 1)) else cmpRunes ls r q := by
          rw [HE.out, drop_of_get hf1, drop_of_get hf2, cmpLs]
        clear hf1 hf2 g1 g2 HE
        have hkX : (k : Int) < (X.length : Int) := by omega
        have hkY : (k : Int) < (Y.length : Int) := by omega
        have hwk : IntKind.i64.wrap (k : Int) = (k : Int) := wrap_small _ (by omega) (by omega)
        by_cases hq : r = q
        · rw [if_pos hq] at hd
          have HD := Lib.hid hd
          clear hd
          subst hq
          go_wp2
          go_quiet (fail)
          go_wp2
          go_roundw
          case rel => exact ⟨k + 1, by omega, by omega, by go_num, HD.out, haf.drewN _⟩
          case measure => simp [intOf]; omega
        · rw [if_neg hq, cmpRunes_before hq] at hd
          cases hb : beforeB ls r q
          · rw [hb] at hd
            have HD := Lib.hid hd
            clear hd
            have hbf : ∀ w0, Aft W w0 → Calls Tryd.prog 46 #[.slice A n c, .int .i32 r, .int .i32 q] w0 (fun e w' => e = .returned (.bool false) ∧ w' = w0) := fun w0 a => by have := before_any A n c ls r q w0 (ha.aft (A2.trans a)); rw [hb] at this; exact this.mono fun _ _ h => ⟨h.1, h.2.symm⟩
            go_wp2
            go_quiet (fail)
            go_wp2
            have haf2 := haf.drewN nq
            have d1 : (wr.drewN nq).cell? ⟨w.heap.size, k, none⟩ = some (.int .i32 r) := c1
            have d2 : (wr.drewN nq).cell? ⟨H2, k, none⟩ = some (.int .i32 q) := c2
            generalize wr.drewN nq = wq at *
            go_quiet ((go_at_call 46; exact Calls.quiet_of_same (hbf _ (haf2.drewN _))))
            go_wp2
            go_ret
            exact ⟨by rw [HD.out]; rfl, A2.trans (haf2.drewN _)⟩
          · rw [hb] at hd
            have HD := Lib.hid hd
            clear hd
            have hbf : ∀ w0, Aft W w0 → Calls Tryd.prog 46 #[.slice A n c, .int .i32 r, .int .i32 q] w0 (fun e w' => e = .returned (.bool true) ∧ w' = w0) := fun w0 a => by have := before_any A n c ls r q w0 (ha.aft (A2.trans a)); rw [hb] at this; exact this.mono fun _ _ h => ⟨h.1, h.2.symm⟩
            go_wp2
            go_quiet (fail)
            go_wp2
            have haf2 := haf.drewN nq
            have d1 : (wr.drewN nq).cell? ⟨w.heap.size, k, none⟩ = some (.int .i32 r) := c1
            have d2 : (wr.drewN nq).cell? ⟨H2, k, none⟩ = some (.int .i32 q) := c2
            generalize wr.drewN nq = wq at *
            go_quiet ((go_at_call 46; exact Calls.quiet_of_same (hbf _ (haf2.drewN _))))
            go_wp2
            go_ret
            exact ⟨by rw [HD.out]; rfl, A2.trans (haf2.drewN _)⟩
      · obtain rfl : k = Y.length := by omega
        have hd : cmpLs ls X Y = 1 := by
          rw [HE.out, List.drop_of_length_le (Nat.le_refl _), List.drop_eq_getElem_cons hx]; rfl
        have HD := Lib.hid hd
        clear hd HE
        have hyy : ¬ ((X.length : Int) < (Y.length : Int)) := by omega
        have hyx : ((Y.length : Int) < (X.length : Int)) := by omega
        go_wp2
        go_ret
        exact ⟨by rw [HD.out]; rfl, A2.trans haf⟩
    · obtain rfl : k = X.length := by omega
      by_cases hy : X.length < Y.length
      · have hd : cmpLs ls X Y = -1 := by
          rw [HE.out, List.drop_of_length_le (Nat.le_refl _), List.drop_eq_getElem_cons hy]; rfl
        have HD := Lib.hid hd
        clear hd HE
        have hyy : ((X.length : Int) < (Y.length : Int)) := by omega
        go_wp2
        go_ret
        exact ⟨by rw [HD.out]; rfl, A2.trans haf⟩
      · have hl : X.length = Y.length := by omega
        have hd : cmpLs ls X Y = 0 := by
          rw [HE.out, List.drop_of_length_le (Nat.le_refl _), List.drop_of_length_le (by omega)]; rfl
        have HD := Lib.hid hd
        clear hd HE hl
        have hyy : ¬ ((X.length : Int) < (Y.length : Int)) := by omega
        have hyx : ¬ ((Y.length : Int) < (X.length : Int)) := by omega
        go_wp2
        go_ret
        exact ⟨by rw [HD.out]; rfl, A2.trans haf⟩

/-- Are there few letters and few short strings? -/
def fewB (n : Nat) (ss : List ByteArray) : Bool := ss.all (fun s => decide (s.size ≤ 200)) && decide (n ≤ 70) && decide (ss.length ≤ 40)

set_option maxRecDepth 100000 in
set_option maxHeartbeats 800000 in
theorem few_any (A : Option Addr) (n c : Nat) (ls : List Lt) (B : Option Addr) (m d : Nat) (ss : List ByteArray) (w : World) (ha : Ll w A n c ls) (hb : Ss w B m d ss) (hz : ∀ s ∈ ss, s.size ≤ maxLen) :
    Calls Tryd.prog 17 #[.slice A n c, .slice B m d] w (BoolPost w (fewB n ss)) := by
  have hn := ha.max
  have hnc := ha.le
  have hm := hb.max
  have hmd := hb.le
  have hlen := Lib.hid hb.len
  go_enter Tryd.func17, Tryd.ntmps17
  go_wp2
  go_loopw [5] (fun i wr => ∃ k, k ≤ m ∧ i = .int .i64 (k : Nat) ∧ (ss.take k).all (fun s => decide (s.size ≤ 200)) = true ∧ Aft w wr) (fun i _ => m - (intOf i).toNat)
  case atStart => exact ⟨0, Nat.zero_le _, rfl, rfl, Aft.refl _⟩
  case round =>
    obtain ⟨k, hk, rfl, hall, haf⟩ := hrel
    have HA := Lib.hid hall
    clear hall
    by_cases hlt : k < m
    · obtain ⟨b, off, s, rfl, hf, h1⟩ := hb.at_ hlt
      have c1 := haf.cell h1
      have hsz := hz s (List.mem_of_getElem? hf)
      unfold maxLen at hsz
      have HF := Lib.hid hf
      clear hf h1
      by_cases h2 : s.size ≤ 200
      · have h2' : (s.size : Int) ≤ 200 := by omega
        go_wp2
        go_roundw
        case rel => exact ⟨k + 1, by omega, by go_num, by rw [take_next HF.out, List.all_append, HA.out]; simp [h2], haf⟩
        case measure => simp [intOf]; omega
      · have h2' : ¬ (s.size : Int) ≤ 200 := by omega
        have hbad : fewB n ss = false := by
          have : ss.all (fun s => decide (s.size ≤ 200)) = false := by
            rw [List.all_eq_false]
            exact ⟨s, List.mem_of_getElem? HF.out, by simp; omega⟩
          simp [fewB, this]
        have HB := Lib.hid hbad
        clear hbad
        go_wp2
        go_ret
        exact ⟨by rw [HB.out]; rfl, haf⟩
    · obtain rfl : k = m := by omega
      have hB : fewB n ss = (decide (n ≤ 70) && decide (k ≤ 40)) := by
        have h := HA.out
        rw [List.take_of_length_le (by rw [hlen.out]; exact Nat.le_refl _)] at h
        simp [fewB, h, hlen.out]
      have HB := Lib.hid hB
      clear hB
      by_cases h70 : n ≤ 70
      · have h70' : (n : Int) ≤ 70 := by omega
        by_cases h40 : k ≤ 40
        · have h40' : (k : Int) ≤ 40 := by omega
          go_wp2
          go_ret
          exact ⟨by rw [HB.out]; simp [h70, h40], haf⟩
        · have h40' : ¬ (k : Int) ≤ 40 := by omega
          go_wp2
          go_ret
          exact ⟨by rw [HB.out]; simp [h40], haf⟩
      · have h70' : ¬ (n : Int) ≤ 70 := by omega
        go_wp2
        go_ret
        exact ⟨by rw [HB.out]; simp [h70], haf⟩
end Go.Proofs.YtgnhkacndmdfgaaDoor
