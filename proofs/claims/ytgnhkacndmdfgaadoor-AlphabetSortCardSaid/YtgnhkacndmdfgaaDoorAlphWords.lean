/-
  Words: all strings of n letters. lengthen gives each word with each letter behind it. Condition: the slices hold the words and the letters; there are at most 256 new words; no word is longer than 1000 bytes.
-/
import Derived.Test.YtgnhkacndmdfgaaDoorAlphIndex
import Derived.Deep.DeepMust
namespace Go.Proofs.YtgnhkacndmdfgaaDoor
open Go.RowKit
open AlphPlain

/-- THE SLICE '.slice A n c' HOLDS THE STRINGS ss. -/
structure Ss (w : World) (A : Option Addr) (n c : Nat) (ss : List ByteArray) : Prop where
  len : ss.length = n
  le : n ≤ c
  max : n * 16 ≤ 281474976710656
  cmax : c ≤ 9223372036854775807
  nl : A = none → c = 0
  cells : ∀ i s, ss[i]? = some s → ∃ b off, A = some ⟨b, off, none⟩ ∧ w.cell? ⟨b, off + i, none⟩ = some (.string s)

theorem Ss.aft {w w' : World} {A : Option Addr} {n c : Nat} {ss : List ByteArray} (h : Ss w A n c ss) (k : Aft w w') : Ss w' A n c ss :=
  ⟨h.len, h.le, h.max, h.cmax, h.nl, fun i f hi => by
    obtain ⟨b, off, hA, h1⟩ := h.cells i f hi
    exact ⟨b, off, hA, k.cell h1⟩⟩

theorem Ss.at_ {w : World} {A : Option Addr} {n c k : Nat} {ss : List ByteArray} (h : Ss w A n c ss) (hk : k < n) :
    ∃ b off s, A = some ⟨b, off, none⟩ ∧ ss[k]? = some s ∧ w.cell? ⟨b, off + k, none⟩ = some (.string s) := by
  have hl : k < ss.length := by have := h.len; omega
  have hi : ss[k]? = some ss[k] := List.getElem?_eq_getElem hl
  obtain ⟨b, off, hA, h1⟩ := h.cells k _ hi
  exact ⟨b, off, _, hA, hi, h1⟩

theorem Ss.nil {w : World} {A : Option Addr} {c : Nat} (hm : c ≤ 9223372036854775807) (hn : A = none → c = 0) : Ss w A 0 c [] := ⟨rfl, Nat.zero_le _, by omega, hm, hn, fun i f h => by simp at h⟩

def SsPost (w : World) (l : List ByteArray) (e : Ending) (w' : World) : Prop := (∃ A n c, e = .returned (.slice A n c) ∧ Ss w' A n c l) ∧ Aft w w'

def strV (l : List ByteArray) : List Value := l.map Value.string
theorem strV_append (a b : List ByteArray) : strV (a ++ b) = strV a ++ strV b := List.map_append
theorem strV_one (l : List ByteArray) : ∀ u ∈ strV l, u.oneCell' = true := by
  intro u hu
  obtain ⟨s, _, rfl⟩ := List.mem_map.1 hu
  rfl

theorem Ss.of_own {w : World} {base g n cap : Nat} {ss : List ByteArray} (h : w.ownsRow base 9 1 (.slice (some ⟨g, 0, none⟩) n cap) n (strV ss)) (hl : ss.length = n) (hle : n ≤ cap) (hm : n * 16 ≤ 281474976710656) :
    Ss w (some ⟨g, 0, none⟩) n cap ss :=
  ⟨hl, hle, hm, by rcases h.2 with ⟨e, _⟩ | ⟨g', cap', cur, e, _, _, _, hc, _⟩; (· cases e); (· cases e; unfold maxLen at hc; omega), fun e => (by cases e), fun i f hi => by
    have hlt : i < n := by have := (List.getElem?_eq_some_iff.1 hi).1; omega
    refine ⟨g, 0, rfl, ?_⟩
    rw [Nat.zero_add, h.cellAt _ (by omega)]
    simp [strV, hi]⟩

theorem Tryd.infoS : (Tryd.prog.info? 9).map (fun i => (i.zero, i.size, i.bytes)) = some (some (.string ByteArray.empty), 1, 16) := by kernel_rfl

theorem one_str (w : World) (s : ByteArray) : ∀ j u, (strV [s])[j]? = some u → (w.alloc (.cells #[.string s] 9)).cell? ((⟨w.heap.size, 0, none⟩ : Addr).add j) = some u := by
  intro j u hj
  match j, hj with
  | 0, hj => simp [strV] at hj; subst hj; simp [Addr.add]
  | j + 1, hj => simp [strV] at hj

theorem one_str2 (w : World) (s : ByteArray) (H : Nat) (h : w.heap.size = H) : ∀ j u, (strV [s])[j]? = some u → (w.alloc (.cells #[.string s] 9)).cell? ((⟨H, 0, none⟩ : Addr).add j) = some u := by
  subst h
  exact one_str w s

/-- The word with each of the letters behind it. -/
def spread (s : ByteArray) (ls : List Lt) : List ByteArray := ls.map fun l => s ++ Utf8.encode l.1
def longer (ws : List ByteArray) (ls : List Lt) : List ByteArray := ws.flatMap fun s => spread s ls

theorem longer_snoc (ws : List ByteArray) (s : ByteArray) (ls : List Lt) : longer (ws ++ [s]) ls = longer ws ls ++ spread s ls := by simp [longer]
theorem spread_snoc (s : ByteArray) (ls : List Lt) (l : Lt) : spread s (ls ++ [l]) = spread s ls ++ [s ++ Utf8.encode l.1] := by simp [spread]
theorem longer_length : ∀ (ws : List ByteArray) (ls : List Lt), (longer ws ls).length = ws.length * ls.length
  | [], ls => by simp [longer]
  | s :: ws, ls => by
    have := longer_length ws ls
    simp only [longer, List.flatMap_cons, List.length_append, spread, List.length_map, List.length_cons] at this ⊢
    rw [this, Nat.succ_mul]; omega

theorem encode_small (r : Int) : (Utf8.encode r).size ≤ 4 := by
  unfold Utf8.encode
  dsimp only
  generalize (if Utf8.valid r = true then r.toNat else Utf8.runeError) = c
  by_cases h1 : c < 128
  · rw [if_pos h1]; show 1 ≤ 4; omega
  · rw [if_neg h1]
    by_cases h2 : c < 2048
    · rw [if_pos h2]; show 2 ≤ 4; omega
    · rw [if_neg h2]
      by_cases h3 : c < 65536
      · rw [if_pos h3]; show 3 ≤ 4; omega
      · rw [if_neg h3]; show 4 ≤ 4; omega

theorem room {i j k n : Nat} (hi : i < k) (hj : j < n) : i * n + j + 1 ≤ k * n := by
  have : (i + 1) * n ≤ k * n := Nat.mul_le_mul_right n hi
  rw [Nat.succ_mul] at this
  omega

set_option maxRecDepth 100000 in
set_option maxHeartbeats 1600000 in
theorem lengthen_any (A : Option Addr) (k c : Nat) (ws : List ByteArray) (B : Option Addr) (n d : Nat) (ls : List Lt) (w : World) (hw : Ss w A k c ws) (ha : Ll w B n d ls) (hr : k * n ≤ 256) (hk : k ≤ 256) (hn64 : n ≤ 64) (hz : ∀ s ∈ ws, s.size ≤ 1000) :
    Calls Tryd.prog 50 #[.slice A k c, .slice B n d] w (SsPost w (longer ws ls)) := by
  have hnc := ha.le
  have hkc := hw.le
  have hlen := Lib.hid ha.len
  have hwl := Lib.hid hw.len
  have hr' : ((k : Int) * (n : Int)) = ((k * n : Nat) : Int) := by simp
  obtain ⟨i0, hi, hz0, hz1, hz2⟩ := info_parts Tryd.infoS
  generalize hN : k * n = N at hr hr'
  have HN := Lib.hid hN
  clear hN
  go_enter Tryd.func50, Tryd.ntmps50
  go_wp2_with (at_make; refine wpList_make_own _ rfl _ _ 39 rfl w.heap.size 9 i0 _ 1 Tryd.underlying39 hi hz0 hz1 _ _ _ N rfl rfl (by first | exact hr' | (rw [hr']; go_num) | omega) (by rw [hz2]; omega) (by unfold maxLen; omega) (Nat.le_refl _) ?_; intro w1 hown1 hgrow1)
  have haft : Aft w w1 := (Aft.refl w).grown hgrow1 (fun _ h => by cases h)
  go_loopw [5, 18] (fun v x wr => ∃ (i m : Nat), i ≤ k ∧ x = .int .i64 (i : Nat) ∧ v = .slice (some ⟨w.heap.size, 0, none⟩) m N ∧ m = i * n ∧ wr.ownsRow w.heap.size 9 1 (.slice (some ⟨w.heap.size, 0, none⟩) m N) m (strV (longer (ws.take i) ls)) ∧ Aft w wr) (fun _ x _ => k - (intOf x).toNat)
  case atStart => exact ⟨0, 0, Nat.zero_le _, rfl, rfl, by omega, hown1, haft⟩
  case round =>
    obtain ⟨i, m, hik, rfl, rfl, hm, own, haf⟩ := hrel
    have HOWN := Lib.hid own
    have HMO := Lib.hid hm
    clear own hown1 hgrow1 haft hm
    by_cases hlt : i < k
    · obtain ⟨b, off, s, rfl, hf, h1⟩ := hw.at_ hlt
      have c1 := haf.cell h1
      have hs : s.size ≤ 1000 := hz s (List.mem_of_getElem? hf)
      have HF := Lib.hid hf
      clear hf h1
      go_wp2
      obtain ⟨wo, rfl⟩ : ∃ wo : World, wo = wr := ⟨_, rfl⟩
      go_loopw [5, 24] (fun v x wr => ∃ (j m : Nat), j ≤ n ∧ x = .int .i64 (j : Nat) ∧ v = .slice (some ⟨w.heap.size, 0, none⟩) m N ∧ m = i * n + j ∧ wr.ownsRow w.heap.size 9 1 (.slice (some ⟨w.heap.size, 0, none⟩) m N) m (strV (longer (ws.take i) ls ++ spread s (ls.take j))) ∧ Aft w wr) (fun _ x _ => n - (intOf x).toNat)
      case atStart => exact ⟨0, m, Nat.zero_le _, rfl, rfl, by have := HMO.out; omega, by simpa [spread] using HOWN.out, haf⟩
      case round =>
        obtain ⟨j, m', hjn, rfl, rfl, hm', own', haf'⟩ := hrel
        have HO := Lib.hid own'
        have HM := Lib.hid hm'
        clear own' hm'
        by_cases hlj : j < n
        · obtain ⟨b2, off2, l, rfl, hf2, g1, g2⟩ := ha.at_ hlj
          have d1 := haf'.cell g1
          have d2 := haf'.cell g2
          have HL := Lib.hid hf2
          clear hf2 g1 g2
          have he := encode_small l.1
          have hsum : s.size + (Utf8.encode l.1).size ≤ 9223372036854775807 := by omega
          have hsum' : ¬ s.size + (Utf8.encode l.1).size > 9223372036854775807 := by omega
          have hroom : m' + 1 ≤ N := by rw [HM.out, ← HN.out]; exact room hlt hlj
          generalize hE : Utf8.encode l.1 = E at *
          go_wp2_with (at_builtin; refine wpList_append_fits _ rfl _ _ 39 rfl w.heap.size 9 i0 1 Tryd.underlying39 hi hz1 w.heap.size m' N _ rfl ((HO.out.alloc _).alloc _) ⟨wr.heap.size + 1, 0, none⟩ 1 1 (strV [s ++ E]) rfl rfl (one_str2 _ _ _ (by exact World.size_alloc _ _)) (strV_one _) (by omega) ?_; intro w2 own2 grow2)
          go_roundw
          case rel =>
            refine ⟨j + 1, m' + 1, by omega, by go_num, rfl, by have := HM.out; omega, ?_, ((haf'.alloc _).alloc _).grown grow2 (fun _ e => by cases e; exact Nat.le_refl _)⟩
            rw [take_next HL.out, spread_snoc, hE, ← List.append_assoc, strV_append]
            exact own2
          case measure => simp [intOf]; omega
        · obtain rfl : j = n := by omega
          go_wp2
          go_roundw
          case rel =>
            refine ⟨i + 1, m', by omega, by go_num, rfl, by rw [HM.out, Nat.succ_mul], ?_, haf'⟩
            have hO := HO.out
            have e : ls.take j = ls := List.take_of_length_le (by rw [hlen.out]; exact Nat.le_refl _)
            rw [e] at hO
            rw [take_next HF.out, longer_snoc]
            exact hO
          case measure => simp [intOf]; omega
    · obtain rfl : i = k := by omega
      go_wp2
      go_ret
      refine ⟨⟨_, _, _, rfl, ?_⟩, haf⟩
      have hO := HOWN.out
      rw [List.take_of_length_le (by rw [hwl.out]; exact Nat.le_refl _)] at hO
      exact Ss.of_own hO (by rw [longer_length, hwl.out, hlen.out, HMO.out]) (by have := HN.out; have := HMO.out; omega) (by have := HN.out; have := HMO.out; omega)

/-- The words of n letters; none if there would be more than 256. -/
def wordsN (ls : List Lt) : Nat → Option (List ByteArray)
  | 0 => some [⟨#[]⟩]
  | i + 1 => match wordsN ls i with
    | none => none
    | some ws => if ws.length * ls.length > 256 then none else some (longer ws ls)

theorem wordsN_none {ls : List Lt} {i : Nat} (h : wordsN ls i = none) : ∀ k, wordsN ls (i + k) = none
  | 0 => h
  | k + 1 => by show wordsN ls (i + k + 1) = none; rw [wordsN, wordsN_none h k]

def words (ls : List Lt) (n : Int) : List ByteArray := if validB ls && decide (0 ≤ n) && decide (n ≤ 40) then (wordsN ls n.toNat).getD [] else []

theorem wordsN_size {ls : List Lt} : ∀ {i : Nat} {ws : List ByteArray}, wordsN ls i = some ws → ws.length ≤ 256 ∧ ∀ s ∈ ws, s.size ≤ 4 * i
  | 0, ws, h => by cases h; exact ⟨by decide, fun s hs => by simp at hs; subst hs; exact Nat.le_refl _⟩
  | i + 1, ws, h => by
    rw [wordsN] at h
    cases e : wordsN ls i with
    | none => rw [e] at h; cases h
    | some vs =>
      rw [e] at h
      simp only at h
      split at h
      · cases h
      · cases h
        refine ⟨by rw [longer_length]; omega, fun s hs => ?_⟩
        obtain ⟨v, hv, hs⟩ := List.mem_flatMap.1 hs
        obtain ⟨l, _, rfl⟩ := List.mem_map.1 hs
        have h1 := (wordsN_size e).2 v hv
        have h2 := encode_small l.1
        rw [ByteArray.size_append]
        omega

set_option maxRecDepth 100000 in
set_option maxHeartbeats 1600000 in
theorem words_any (A : Option Addr) (n c : Nat) (ls : List Lt) (x : Int) (w : World) (ha : Ll w A n c ls) :
    Calls Tryd.prog 37 #[.slice A n c, .int .i64 x] w (SsPost w (words ls x)) := by
  have hnc := ha.le
  have hlen := Lib.hid ha.len
  have h1 := valid_any A n c ls w ha
  cases hv : validB ls
  · rw [hv] at h1
    go_enter Tryd.func37, Tryd.ntmps37
    go_wp2_with fail
    refine h1.mono ?_
    rintro e w1 ⟨rfl, A1⟩
    clear h1
    go_wp2
    go_ret
    exact ⟨⟨_, _, _, rfl, by simp [words, hv]; exact Ss.nil (by omega) (fun _ => rfl)⟩, A1⟩
  · rw [hv] at h1
    by_cases hx0 : x < 0
    · go_enter Tryd.func37, Tryd.ntmps37
      go_wp2_with fail
      refine h1.mono ?_
      rintro e w1 ⟨rfl, A1⟩
      clear h1
      go_wp2
      go_ret
      refine ⟨⟨_, _, _, rfl, ?_⟩, A1⟩
      have e : words ls x = [] := by unfold words; rw [decide_eq_false (show ¬ 0 ≤ x by omega)]; simp
      rw [e]
      exact Ss.nil (by omega) (fun _ => rfl)
    · by_cases hx1 : 40 < x
      · go_enter Tryd.func37, Tryd.ntmps37
        go_wp2_with fail
        refine h1.mono ?_
        rintro e w1 ⟨rfl, A1⟩
        clear h1
        go_wp2
        go_ret
        refine ⟨⟨_, _, _, rfl, ?_⟩, A1⟩
        have e : words ls x = [] := by unfold words; rw [decide_eq_false (show ¬ x ≤ 40 by omega)]; simp
        rw [e]
        exact Ss.nil (by omega) (fun _ => rfl)
      · obtain ⟨X, rfl⟩ : ∃ X : Nat, x = X := ⟨x.toNat, by omega⟩
        have hw : words ls X = (wordsN ls X).getD [] := by
          unfold words
          rw [hv, decide_eq_true (show (0 : Int) ≤ X by omega), decide_eq_true (show (X : Int) ≤ 40 by omega)]
          simp
        have HW := Lib.hid hw
        have hn64 : n ≤ 64 := by
          simp only [validB, Bool.and_eq_true, decide_eq_true_eq] at hv
          have := hlen.out
          omega
        clear hw hv
        go_enter Tryd.func37, Tryd.ntmps37
        go_wp2_with fail
        refine h1.mono ?_
        rintro e w1 ⟨rfl, A1⟩
        clear h1
        go_wp2
        go_loopw [5, 19] (fun v x wr => ∃ (i : Nat) (B : Option Addr) (m d : Nat) (ws : List ByteArray), i ≤ X ∧ x = .int .i64 (i : Nat) ∧ v = .slice B m d ∧ Ss wr B m d ws ∧ wordsN ls i = some ws ∧ Aft w wr) (fun _ x _ => X - (intOf x).toNat)
        case atStart =>
          refine ⟨0, _, _, _, [⟨#[]⟩], Nat.zero_le _, rfl, rfl, ⟨rfl, Nat.le_refl _, by omega, by omega, fun e => (by cases e), fun i s hi => ?_⟩, rfl, A1.alloc _⟩
          cases i with
          | zero => simp at hi; subst hi; exact ⟨_, _, rfl, by simp⟩
          | succ i => simp at hi
        case round =>
          obtain ⟨i, B, m, d, ws, hi, rfl, rfl, hs, hws, haf⟩ := hrel
          have hz := wordsN_size hws
          have hml := hs.len
          have hmd := hs.le
          have HWS := Lib.hid hws
          clear hws
          have hmul : ((m : Int) * (n : Int)) = ((m * n : Nat) : Int) := by simp
          have hm256 : m ≤ 256 := by omega
          have hmax : m * n ≤ 256 * 64 := Nat.mul_le_mul hm256 hn64
          generalize hN : m * n = N at hmul hmax
          have HN := Lib.hid hN
          clear hN
          by_cases hlt : i < X
          · by_cases hbig : 256 < N
            · have hgt : (256 : Int) < (N : Int) := by omega
              go_wp2
              go_ret
              refine ⟨⟨_, _, _, rfl, ?_⟩, haf⟩
              have e : words ls X = [] := by
                have h0 : wordsN ls (i + 1) = none := by rw [wordsN, HWS.out]; simp only; rw [if_pos (by rw [hml, hlen.out, HN.out]; exact hbig)]
                rw [HW.out, show X = i + 1 + (X - (i + 1)) from by omega, wordsN_none h0]
                rfl
              rw [e]
              exact Ss.nil (by omega) (fun _ => rfl)
            · have hle : (N : Int) ≤ 256 := by omega
              go_wp2_with fail
              refine (lengthen_any B m d ws A n c ls wr hs (ha.aft haf) (by rw [HN.out]; omega) hm256 hn64 (fun s h => by have := hz.2 s h; omega)).mono ?_
              rintro e w2 ⟨⟨B2, m2, d2, rfl, hs2⟩, A2⟩
              go_wp2
              go_roundw
              case rel => exact ⟨i + 1, _, _, _, longer ws ls, by omega, by go_num, rfl, hs2, by rw [wordsN, HWS.out]; simp only; rw [if_neg (by rw [hml, hlen.out, HN.out]; omega)], haf.trans A2⟩
              case measure => simp [intOf]; omega
          · obtain rfl : i = X := by omega
            go_wp2
            go_ret
            exact ⟨⟨_, _, _, rfl, by rw [HW.out, HWS.out]; exact hs⟩, haf⟩
end Go.Proofs.YtgnhkacndmdfgaaDoor
