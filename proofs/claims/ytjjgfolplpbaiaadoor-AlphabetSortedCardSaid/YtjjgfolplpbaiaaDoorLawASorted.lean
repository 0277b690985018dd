/-
  Each string of the result of Sort is at most the next one, and every string occurs as often as in the argument: the law AlphabetSorted returns true. Conditions: none.
-/
import Derived.Test.YtjjgfolplpbaiaaDoorAlphFrame
import Derived.Test.YtjjgfolplpbaiaaDoorSortAll
import Derived.Test.YtjjgfolplpbaiaaDoorAlphAwake
import Derived.Test.YtjjgfolplpbaiaaDoorCards
import Derived.Test.YtjjgfolplpbaiaaDoorTie
import Derived.Deep.DeepHandedRow
import Derived.Deep.DeepWitnessRowRef
import Derived.SevenTiedAt
namespace Go.Proofs.YtjjgfolplpbaiaaDoor.lawASorted
open Go.ChangeShapes Go.WideShapes Go.ChangeAt Go.RowKit
open Go.ChangeMaps (open_string shut_string)
open AlphPlain SortPlain

def cntB (l : List ByteArray) (v : ByteArray) : Nat := l.countP fun t => t.toList == v.toList
theorem insV_perm (lt : ByteArray → ByteArray → Bool) (x : ByteArray) : ∀ l, (insV lt x l).Perm (x :: l)
  | [] => List.Perm.refl _
  | y :: l => by
    rw [insV]
    split
    · exact ((insV_perm lt x l).cons y).trans (List.Perm.swap x y l)
    · exact List.Perm.refl _
theorem fold_perm (lt : ByteArray → ByteArray → Bool) : ∀ (r acc : List ByteArray), (r.foldl (fun acc x => insR lt x acc) acc).Perm (acc ++ r)
  | [], acc => by simp
  | x :: r, acc => by
    rw [List.foldl_cons]
    refine (fold_perm lt r _).trans ?_
    have h : (insR lt x acc).Perm (x :: acc) := (List.reverse_perm _).trans ((insV_perm lt x acc.reverse).trans ((List.reverse_perm acc).cons x))
    exact (h.append_right r).trans List.perm_middle.symm
theorem isort_cnt (lt : ByteArray → ByteArray → Bool) (l : List ByteArray) (v : ByteArray) : cntB (isort lt l) v = cntB l v := by
  have := (fold_perm lt l []).countP_eq (fun t : ByteArray => t.toList == v.toList)
  simpa [cntB, isort] using this
theorem cntB_next {l : List ByteArray} {v t : ByteArray} {k : Nat} (h : l[k]? = some t) : cntB (l.take (k + 1)) v = cntB (l.take k) v + if t.toList == v.toList then 1 else 0 := by
  unfold cntB
  rw [take_next h, List.countP_append]
  simp [List.countP_cons]
theorem cntB_le (l : List ByteArray) (v : ByteArray) (k : Nat) : cntB (l.take k) v ≤ cntB l v := (List.take_sublist k l).countP_le
theorem cntB_len (l : List ByteArray) (v : ByteArray) : cntB l v ≤ l.length := List.countP_le_length

set_option maxRecDepth 100000 in
set_option maxHeartbeats 3200000 in
theorem walk (A : Option Addr) (n c : Nat) (ls : List Lt) (B : Option Addr) (m d : Nat) (ss : List ByteArray) (v : ByteArray) (w : World) (hT : Tabs w) (ha : Ll w A n c ls) (_ : c * 8 ≤ reachBytes) (hb : Ss w B m d ss) (hz : ∀ s ∈ ss, s.size ≤ maxLen) (_ : d * 16 ≤ reachBytes) (zv : v.size ≤ maxLen) :
    Calls Tryd.prog 11 #[.slice A n c, .slice B m d, .string v] w (BoolPost w true) := by
  cases hf : fewB n ss
  · go_enter Tryd.func11, Tryd.ntmps11
    go_wp2_with fail
    have h1 := awake_any w hT
    refine h1.mono ?_
    rintro e w1 ⟨rfl, N1⟩
    clear h1
    have A1 := N1
    go_wp2_with fail
    have h1 := few_any A n c ls B m d ss w1 (ha.aft A1) (hb.aft A1) hz
    rw [hf] at h1
    refine h1.mono ?_
    rintro e w2 ⟨rfl, N2⟩
    clear h1
    have A2 := A1.trans N2
    go_wp2_with fail
    have h1 := awake_any w2 (tabs_aft hT A2)
    refine h1.mono ?_
    rintro e w3 ⟨rfl, N3⟩
    clear h1
    have A3 := A2.trans N3
    go_wp2
    go_ret
    exact ⟨by first | rfl | simp, A3⟩
  · have hm40 : m ≤ 40 := by have := hb.len; simp only [fewB, Bool.and_eq_true, decide_eq_true_eq] at hf; omega
    unfold maxLen at zv
    by_cases hv : v.size ≤ 200
    · have hv' : ¬ (200 : Int) < (v.size : Int) := by omega
      go_enter Tryd.func11, Tryd.ntmps11
      go_wp2_with fail
      have h1 := awake_any w hT
      refine h1.mono ?_
      rintro e w1 ⟨rfl, N1⟩
      clear h1
      have A1 := N1
      go_wp2_with fail
      have h1 := few_any A n c ls B m d ss w1 (ha.aft A1) (hb.aft A1) hz
      rw [hf] at h1
      refine h1.mono ?_
      rintro e w2 ⟨rfl, N2⟩
      clear h1
      have A2 := A1.trans N2
      go_wp2_with fail
      have h1 := sort_any A n c ls B m d ss w2 (ha.aft A2) (hb.aft A2) (tabs_aft hT A2) hm40
      refine h1.mono ?_
      rintro e w3 ⟨⟨U, un, uc, rfl, su⟩, N3⟩
      clear h1
      have A3 := A2.trans N3
      have hun : un = m := by rw [← su.len, isort_len]; exact hb.len
      have hsrt := isort_srt (ltb_weak ls) ss
      have hcnt := isort_cnt (ltb ls) ss v
      generalize isort (ltb ls) ss = l at *
      have huc := su.le
      have hmd := hb.le
      have HUN := Lib.hid hun
      have hu40 : un ≤ 40 := by omega
      have HLEN := Lib.hid su.len
      have HBL := Lib.hid hb.len
      have HSR := Lib.hid hsrt
      have HCN := Lib.hid hcnt
      have hT3 := tabs_aft hT A3
      have ha3 := ha.aft A3
      have hb3 := hb.aft A3
      clear hun hsrt hcnt N1 N2 N3 hf
      go_wp2
      go_loopw [8, 9] (fun x i wr => ∃ (k e : Nat), k ≤ un ∧ e = cntB (l.take k) v ∧ x = .int .i64 (e : Nat) ∧ i = .int .i64 (k : Nat) ∧ Aft w3 wr) (fun _ i _ => un - (intOf i).toNat)
      case atStart => exact ⟨0, 0, Nat.zero_le _, rfl, rfl, rfl, Aft.refl _⟩
      case round =>
        obtain ⟨k, e, hk, he, rfl, rfl, haf⟩ := hrel
        have hel : e ≤ 40 := by
          have h1 := cntB_len (l.take k) v
          rw [List.length_take] at h1
          omega
        have HE := Lib.hid he
        clear he
        by_cases hlt : k < un
        · obtain ⟨bb, off, t, rfl, hft, c0⟩ := su.at_ hlt
          have c1 := haf.cell c0
          have HT := Lib.hid hft
          have HN := Lib.hid (cntB_next (v := v) hft)
          have hwk : IntKind.i64.wrap (k : Int) = (k : Int) := wrap_small _ (by omega) (by omega)
          have hki : (k : Int) < (un : Int) := by omega
          have hki0 : (0 : Int) ≤ (k : Int) := by omega
          by_cases hk0 : k = 0
          · subst hk0
            clear hft
            simp only [Nat.add_zero] at c0 c1
            rw [show (((0 : Nat)) : Int) = 0 from rfl]
            go_wp2
            refine wp_region_held_drew (S := fun w' => Aft w3 w' ∧ w'.cell? ⟨bb, off, none⟩ = some (.string t)) (by kernel_rfl) (by first | exact ⟨by assumption, by assumption⟩ | exact ⟨Below.drew (by assumption), by assumption⟩) (fun hHeld => ?_)
            refine take_on (i := 0) (v := ?v1) rfl (by kernel_rfl) (by kernel_rfl) (by kernel_rfl) (fun _ _ _ h => h) (by rfl) (by assumption) ?y1 ?_
            case y1 => (intro w hSw; (try dsimp only at hSw); go_simp; (try with_reducible rfl))
            try simp only [Act.put, List.setIfInBounds_toArray, List.set_cons_zero, List.set_cons_succ]
            refine take_on (i := 1) (v := ?v2) rfl (by kernel_rfl) (by kernel_rfl) (by kernel_rfl) (fun _ _ _ h => h) (by rfl) (by assumption) ?y2 ?_
            case y2 => (intro w hSw; (try dsimp only at hSw); go_simp; (try with_reducible rfl))
            try simp only [Act.put, List.setIfInBounds_toArray, List.set_cons_zero, List.set_cons_succ]
            refine take_on (i := 2) (v := ?v3) rfl (by kernel_rfl) (by kernel_rfl) (by kernel_rfl) (fun _ _ _ h => h) (by rfl) (by assumption) ?y3 ?_
            case y3 => (intro w hSw; (try dsimp only at hSw); go_simp; (try with_reducible rfl))
            try simp only [Act.put, List.setIfInBounds_toArray, List.set_cons_zero, List.set_cons_succ]
            refine take_off (i := 3) rfl (by kernel_rfl) (by kernel_rfl) (by kernel_rfl) (fun _ _ _ h => h) (by rfl) (by assumption) ?_
            try simp only [Act.put, List.setIfInBounds_toArray, List.set_cons_zero, List.set_cons_succ]
            refine take_off (i := 4) rfl (by kernel_rfl) (by kernel_rfl) (by kernel_rfl) (fun _ _ _ h => h) (by rfl) (by assumption) ?_
            try simp only [Act.put, List.setIfInBounds_toArray, List.set_cons_zero, List.set_cons_succ]
            refine take_off (i := 5) rfl (by kernel_rfl) (by kernel_rfl) (by kernel_rfl) (fun _ _ _ h => h) (by rfl) (by assumption) ?_
            try simp only [Act.put, List.setIfInBounds_toArray, List.set_cons_zero, List.set_cons_succ]
            refine take_off (i := 6) rfl (by kernel_rfl) (by kernel_rfl) (by kernel_rfl) (fun _ _ _ h => h) (by rfl) (by assumption) ?_
            try simp only [Act.put, List.setIfInBounds_toArray, List.set_cons_zero, List.set_cons_succ]
            refine take_off (i := 7) rfl (by kernel_rfl) (by kernel_rfl) (by kernel_rfl) (fun _ _ _ h => h) (by rfl) (by assumption) ?_
            try simp only [Act.put, List.setIfInBounds_toArray, List.set_cons_zero, List.set_cons_succ]
            refine take_off (i := 8) rfl (by kernel_rfl) (by kernel_rfl) (by kernel_rfl) (fun _ _ _ h => h) (by rfl) (by assumption) ?_
            try simp only [Act.put, List.setIfInBounds_toArray, List.set_cons_zero, List.set_cons_succ]
            refine take_off (i := 9) rfl (by kernel_rfl) (by kernel_rfl) (by kernel_rfl) (fun _ _ _ h => h) (by rfl) (by assumption) ?_
            try simp only [Act.put, List.setIfInBounds_toArray, List.set_cons_zero, List.set_cons_succ]
            refine take_off (i := 10) rfl (by kernel_rfl) (by kernel_rfl) (by kernel_rfl) (fun _ _ _ h => h) (by rfl) (by assumption) ?_
            try simp only [Act.put, List.setIfInBounds_toArray, List.set_cons_zero, List.set_cons_succ]
            refine take_off (i := 11) rfl (by kernel_rfl) (by kernel_rfl) (by kernel_rfl) (fun _ _ _ h => h) (by rfl) (by assumption) ?_
            try simp only [Act.put, List.setIfInBounds_toArray, List.set_cons_zero, List.set_cons_succ]
            refine take_off (i := 12) rfl (by kernel_rfl) (by kernel_rfl) (by kernel_rfl) (fun _ _ _ h => h) (by rfl) (by assumption) ?_
            try simp only [Act.put, List.setIfInBounds_toArray, List.set_cons_zero, List.set_cons_succ]
            refine take_off (i := 13) rfl (by kernel_rfl) (by kernel_rfl) (by kernel_rfl) (fun _ _ _ h => h) (by rfl) (by assumption) ?_
            try simp only [Act.put, List.setIfInBounds_toArray, List.set_cons_zero, List.set_cons_succ]
            refine take_off (i := 14) rfl (by kernel_rfl) (by kernel_rfl) (by kernel_rfl) (fun _ _ _ h => h) (by rfl) (by assumption) ?_
            try simp only [Act.put, List.setIfInBounds_toArray, List.set_cons_zero, List.set_cons_succ]
            refine take_on (i := 15) (v := ?v16) rfl (by kernel_rfl) (by kernel_rfl) (by kernel_rfl) (fun _ _ _ h => h) (by rfl) (by assumption) ?y16 ?_
            case y16 => (intro w hSw; (try dsimp only at hSw); go_simp; (try with_reducible rfl))
            try simp only [Act.put, List.setIfInBounds_toArray, List.set_cons_zero, List.set_cons_succ]
            refine wpAnyH_done (by kernel_rfl) ?_ _
            obtain ⟨hh0, c2⟩ := hHeld
            cases hq : (t.toList == v.toList)
            · rw [hq] at HN
              go_wp2
              go_roundw
              case rel => exact ⟨0 + 1, e, by omega, by rw [HN.out, ← HE.out]; simp, rfl, by go_num, hh0⟩
              case measure => simp [intOf]; omega
            · rw [hq] at HN
              go_wp2
              go_roundw
              case rel => exact ⟨0 + 1, e + 1, by omega, by rw [HN.out, ← HE.out]; simp, by go_num, by go_num, hh0⟩
              case measure => simp [intOf]; omega
          · obtain ⟨bb', off', u, hA', hfu, cu0⟩ := su.at_ (show k - 1 < un by omega)
            cases hA'
            have hcmp : cmpL ls u t ≤ 0 := by
              have h1 := srt_at HSR.out hfu HT.out (by omega)
              have h2 : ¬ cmpL ls t u < 0 := of_decide_eq_false h1
              have h3 := ord_neg ls t u
              omega
            have cu1 := haf.cell cu0
            clear hft hfu
            have hx2 : ∀ w0, Aft w3 w0 → Calls Tryd.prog 27 #[.slice A n c, .string u, .string t] w0 (fun e w' => e = .returned (.int .i64 (cmpL ls u t)) ∧ (Aft w3 w' ∧ w'.cell? ⟨bb, off + k, none⟩ = some (.string t) ∧ w'.cell? ⟨bb, off + (k - 1), none⟩ = some (.string u))) := fun w0 a => by
              have h := compare_any A n c ls u t w0 (ha3.aft a) (tabs_aft hT3 a)
              exact h.mono fun e w' ⟨h1, h2⟩ => ⟨h1, a.trans h2, (a.trans h2).cell c0, (a.trans h2).cell cu0⟩
            generalize cmpL ls u t = C at *
            have hk1 : (0 : Int) < (k : Int) := by omega
            have hkn : 0 < k := by omega
            have hk1' : (1 : Int) ≤ (k : Int) := by omega
            have hkn' : 1 ≤ k := by omega
            have hkd : decide ((0 : Int) < (k : Int)) = true := by simp; omega
            have hkd2 : decide (0 < k) = true := by simp; omega
            have hwj : IntKind.i64.wrap ((k : Int) - 1) = (k : Int) - 1 := wrap_small _ (by omega) (by omega)
            have hj0 : (0 : Int) ≤ (k : Int) - 1 := by omega
            have hj1 : (k : Int) - 1 < (un : Int) := by omega
            have hjn : ((k : Int) - 1).toNat = k - 1 := by omega
            have hcd : decide ((0 : Int) < C) = false := decide_eq_false (by omega)
            have hcn : ¬ (0 : Int) < C := by omega
            go_wp2
            refine wp_region_held_drew (S := fun w' => Aft w3 w' ∧ w'.cell? ⟨bb, off + k, none⟩ = some (.string t) ∧ w'.cell? ⟨bb, off + (k - 1), none⟩ = some (.string u)) (by kernel_rfl) (by first | exact ⟨by assumption, by assumption, by assumption⟩ | exact ⟨Below.drew (by assumption), by assumption, by assumption⟩) (fun hHeld => ?_)
            refine take_on (i := 0) (v := ?v17) rfl (by kernel_rfl) (by kernel_rfl) (by kernel_rfl) (fun _ _ _ h => h) (by rfl) (by assumption) ?y17 ?_
            case y17 => (intro w hSw; (try dsimp only at hSw); go_simp; (try with_reducible rfl))
            try simp only [Act.put, List.setIfInBounds_toArray, List.set_cons_zero, List.set_cons_succ]
            refine take_on (i := 1) (v := ?v18) rfl (by kernel_rfl) (by kernel_rfl) (by kernel_rfl) (fun _ _ _ h => h) (by rfl) (by assumption) ?y18 ?_
            case y18 => (intro w hSw; (try dsimp only at hSw); go_simp; (try with_reducible rfl))
            try simp only [Act.put, List.setIfInBounds_toArray, List.set_cons_zero, List.set_cons_succ]
            refine take_on (i := 2) (v := ?v19) rfl (by kernel_rfl) (by kernel_rfl) (by kernel_rfl) (fun _ _ _ h => h) (by rfl) (by assumption) ?y19 ?_
            case y19 => (intro w hSw; (try dsimp only at hSw); go_simp; (try with_reducible rfl))
            try simp only [Act.put, List.setIfInBounds_toArray, List.set_cons_zero, List.set_cons_succ]
            refine take_on (i := 3) (v := ?v20) rfl (by kernel_rfl) (by kernel_rfl) (by kernel_rfl) (fun _ _ _ h => h) (by rfl) (by assumption) ?y20 ?_
            case y20 => (intro w hSw; (try dsimp only at hSw); go_simp; (try with_reducible rfl))
            try simp only [Act.put, List.setIfInBounds_toArray, List.set_cons_zero, List.set_cons_succ]
            refine take_on (i := 4) (v := ?v21) rfl (by kernel_rfl) (by kernel_rfl) (by kernel_rfl) (fun _ _ _ h => h) (by rfl) (by assumption) ?y21 ?_
            case y21 => (intro w hSw; (try dsimp only at hSw); go_simp; (try with_reducible rfl))
            try simp only [Act.put, List.setIfInBounds_toArray, List.set_cons_zero, List.set_cons_succ]
            refine take_on (i := 5) (v := ?v22) rfl (by kernel_rfl) (by kernel_rfl) (by kernel_rfl) (fun _ _ _ h => h) (by rfl) (by assumption) ?y22 ?_
            case y22 => (intro w hSw; (try dsimp only at hSw); go_simp; (try with_reducible rfl))
            try simp only [Act.put, List.setIfInBounds_toArray, List.set_cons_zero, List.set_cons_succ]
            refine take_on (i := 6) (v := ?v23) rfl (by kernel_rfl) (by kernel_rfl) (by kernel_rfl) (fun _ _ _ h => h) (by rfl) (by assumption) ?y23 ?_
            case y23 => (intro w hSw; (try dsimp only at hSw); go_simp; (try with_reducible rfl))
            try simp only [Act.put, List.setIfInBounds_toArray, List.set_cons_zero, List.set_cons_succ]
            refine take_on (i := 7) (v := ?v24) rfl (by kernel_rfl) (by kernel_rfl) (by kernel_rfl) (fun _ _ _ h => h) (by rfl) (by assumption) ?y24 ?_
            case y24 => (intro w hSw; (try dsimp only at hSw); go_simp; (try with_reducible rfl))
            try simp only [Act.put, List.setIfInBounds_toArray, List.set_cons_zero, List.set_cons_succ]
            refine take_on (i := 8) (v := ?v25) rfl (by kernel_rfl) (by kernel_rfl) (by kernel_rfl) (fun _ _ _ h => h) (by rfl) (by assumption) ?y25 ?_
            case y25 => (intro w hSw; (try dsimp only at hSw); go_simp; (try with_reducible rfl))
            try simp only [Act.put, List.setIfInBounds_toArray, List.set_cons_zero, List.set_cons_succ]
            refine take_on (i := 9) (v := ?v26) rfl (by kernel_rfl) (by kernel_rfl) (by kernel_rfl) (fun _ _ _ h => h) (by rfl) (by assumption) ?y26 ?_
            case y26 => (intro w hSw; (try dsimp only at hSw); go_simp; (try with_reducible rfl))
            try simp only [Act.put, List.setIfInBounds_toArray, List.set_cons_zero, List.set_cons_succ]
            refine take_on (i := 10) (v := ?v27) rfl (by kernel_rfl) (by kernel_rfl) (by kernel_rfl) (fun _ _ _ h => h) (by rfl) (by assumption) ?y27 ?_
            case y27 => (intro w hSw; (try dsimp only at hSw); go_simp; (try with_reducible rfl))
            try simp only [Act.put, List.setIfInBounds_toArray, List.set_cons_zero, List.set_cons_succ]
            refine take_on (i := 11) (v := ?v28) rfl (by kernel_rfl) (by kernel_rfl) (by kernel_rfl) (fun _ _ _ h => h) (by rfl) (by assumption) ?y28 ?_
            case y28 => (intro w hSw; (try dsimp only at hSw); go_simp; (try with_reducible rfl))
            try simp only [Act.put, List.setIfInBounds_toArray, List.set_cons_zero, List.set_cons_succ]
            refine take_on (i := 12) (v := ?v29) rfl (by kernel_rfl) (by kernel_rfl) (by kernel_rfl) (fun _ _ _ h => h) (by rfl) (by assumption) ?y29 ?_
            case y29 => (intro w hSw; (try dsimp only at hSw); go_simp; (try with_reducible rfl))
            try simp only [Act.put, List.setIfInBounds_toArray, List.set_cons_zero, List.set_cons_succ]
            refine one_ready (i := 13) rfl (by kernel_rfl) (by rfl) (fun K hK => ?_)
            go_simp
            go_at_call 27
            refine (hx2 _ hHeld.1).mono ?_
            rintro e' w' ⟨rfl, N, k1, k2⟩
            try go_simp
            refine hK.out _ _ (by first | exact ⟨by assumption, by assumption, by assumption⟩ | exact ⟨Below.drew (by assumption), by assumption, by assumption⟩) (fun hHeld => ?_)
            clear hK K
            try simp only [Act.put, List.setIfInBounds_toArray, List.set_cons_zero, List.set_cons_succ]
            refine take_on (i := 14) (v := ?v31) rfl (by kernel_rfl) (by kernel_rfl) (by kernel_rfl) (fun _ _ _ h => h) (by rfl) (by assumption) ?y31 ?_
            case y31 => (intro w hSw; (try dsimp only at hSw); go_simp; (try with_reducible rfl))
            try simp only [Act.put, List.setIfInBounds_toArray, List.set_cons_zero, List.set_cons_succ]
            refine take_on (i := 15) (v := ?v32) rfl (by kernel_rfl) (by kernel_rfl) (by kernel_rfl) (fun _ _ _ h => h) (by rfl) (by assumption) ?y32 ?_
            case y32 => (intro w hSw; (try dsimp only at hSw); go_simp; (try with_reducible rfl))
            try simp only [Act.put, List.setIfInBounds_toArray, List.set_cons_zero, List.set_cons_succ]
            refine wpAnyH_done (by kernel_rfl) ?_ _
            obtain ⟨hh0, c2, c3⟩ := hHeld
            cases hq : (t.toList == v.toList)
            · rw [hq] at HN
              go_wp2
              go_roundw
              case rel => exact ⟨k + 1, e, by omega, by rw [HN.out, ← HE.out]; simp, rfl, by go_num, hh0⟩
              case measure => simp [intOf]; omega
            · rw [hq] at HN
              go_wp2
              go_roundw
              case rel => exact ⟨k + 1, e + 1, by omega, by rw [HN.out, ← HE.out]; simp, by go_num, by go_num, hh0⟩
              case measure => simp [intOf]; omega
        · obtain rfl : k = un := by omega
          have hee : e = cntB ss v := by rw [HE.out, List.take_of_length_le (by rw [HLEN.out]; exact Nat.le_refl _), HCN.out]
          have HEE := Lib.hid hee
          have haf0 := haf
          clear HE hee
          go_wp2
          go_loopw [8, 10] (fun x i w5 => ∃ (j f : Nat), j ≤ m ∧ f + cntB (ss.take j) v = cntB ss v ∧ x = .int .i64 (f : Nat) ∧ i = .int .i64 (j : Nat) ∧ Aft w3 w5) (fun _ i _ => m - (intOf i).toNat)
          case atStart => exact ⟨0, e, Nat.zero_le _, by rw [HEE.out]; rfl, rfl, rfl, haf0⟩
          case round =>
            clear haf haf0
            obtain ⟨j, f, hj, hf, rfl, rfl, haf⟩ := hrel
            have HFF := Lib.hid hf
            clear hf
            have hfl : f ≤ 40 := by have := HFF.out; have := cntB_len ss v; have := HBL.out; omega
            by_cases hlt2 : j < m
            · obtain ⟨bb, off, t, rfl, hft, c0⟩ := hb3.at_ hlt2
              have c1 := haf.cell c0
              have HN := Lib.hid (cntB_next (v := v) hft)
              have HLE := Lib.hid (cntB_le ss v (j + 1))
              have hwk : IntKind.i64.wrap (j : Int) = (j : Int) := wrap_small _ (by omega) (by omega)
              clear hft
              cases hq : (t.toList == v.toList)
              · rw [hq] at HN
                go_wp2
                go_roundw
                case rel => exact ⟨j + 1, f, by omega, by rw [HN.out]; simpa using HFF.out, rfl, by go_num, haf⟩
                case measure => simp [intOf]; omega
              · rw [hq] at HN
                have hf1 : 1 ≤ f := by
                  have h1 := HN.out
                  have h2 := HLE.out
                  have h3 := HFF.out
                  simp at h1
                  omega
                have hfv : Value.int .i64 ((f : Int) - 1) = .int .i64 ((f - 1 : Nat) : Int) := by congr 1; omega
                have HFV := Lib.hid hfv
                clear hfv
                go_wp2
                go_roundw
                case rel => exact ⟨j + 1, f - 1, by omega, by have h1 := HN.out; have h3 := HFF.out; simp at h1; omega, HFV.out, by go_num, haf⟩
                case measure => simp [intOf]; omega
            · obtain rfl : j = m := by omega
              have hf0 : f = 0 := by
                have := HFF.out
                rw [List.take_of_length_le (by rw [HBL.out]; exact Nat.le_refl _)] at this
                omega
              subst hf0
              have hku : (k : Int) = (j : Int) := by have := HUN.out; omega
              have hku2 : k = j := HUN.out
              subst hku2
              go_wp2
              go_ret
              exact ⟨by first | rfl | simp, A3.trans haf⟩
    · have hv' : (200 : Int) < (v.size : Int) := by omega
      go_enter Tryd.func11, Tryd.ntmps11
      go_wp2_with fail
      have h1 := awake_any w hT
      refine h1.mono ?_
      rintro e w1 ⟨rfl, N1⟩
      clear h1
      have A1 := N1
      go_wp2_with fail
      have h1 := few_any A n c ls B m d ss w1 (ha.aft A1) (hb.aft A1) hz
      rw [hf] at h1
      refine h1.mono ?_
      rintro e w2 ⟨rfl, N2⟩
      clear h1
      have A2 := A1.trans N2
      go_wp2_with fail
      have h1 := awake_any w2 (tabs_aft hT A2)
      refine h1.mono ?_
      rintro e w3 ⟨rfl, N3⟩
      clear h1
      have A3 := A2.trans N3
      go_wp2
      go_ret
      exact ⟨by first | rfl | simp, A3⟩

theorem own : ownKnob Tryd.prog.godebug = none := by kernel_rfl
theorem laidOut : laidOutB Tryd.prog = true := by kernel_rfl
theorem bytesA : Tryd.prog.bytesOf 31 = 8 := by kernel_rfl
theorem bytesT : Tryd.prog.bytesOf 9 = 16 := by kernel_rfl

set_option maxRecDepth 100000 in
theorem contract (H : Type) (enc : TypeId × Value → H) (W : World) (base : Nat) (args : Array Value) (ds gs : List (DataW H)) (before : List MemPlace)
    (hval : ∀ (j : Nat) t v, Tryd.f11.params[j]? = some t → args[j]? = some v → Value.okWide Tryd.prog W .any base t v)
    (hW : DataW.Whole enc Tryd.prog Tryd.f11.params.toList Rows.alphabetSortedSpec.vars false W args.toList ds gs before) (hsz0 : (DataW.weightsEach Tryd.prog (Tryd.f11.params.toList ++ Rows.alphabetSortedSpec.plain.varTypes Tryd.prog) (ds ++ gs)).all (· ≤ reachBytes) = true) (hL : laidMetH Tryd.prog listed W) :
    Calls Tryd.prog 11 args W fun e W' => ∃ v, e = .returned v ∧ Rows.alphabetSortedSpec.post enc Tryd.prog Tryd.f11 false true false false W args v W' := by
  have hW' := hW
  obtain ⟨p, q, hA0, hV, rfl, hfz, hnd⟩ := hW
  have hA : DataW.TrodAll enc Tryd.prog W 0 (fun _ => true) true Tryd.f11.params.toList args.toList ds p := hA0
  have hsz := hsz0
  rw [Tryd.params11] at hA hval hsz
  obtain ⟨v0, vs0, d0, ds0, p0, q0, hargs, rfl, rfl, h0, r0⟩ := trodAll_cons hA
  obtain ⟨v1, vs1, d1, ds1, p1, q1, rfl, rfl, rfl, h1, r1⟩ := trodAll_cons r0
  obtain ⟨v2, vs2, d2, ds2, p2, q2, rfl, rfl, rfl, h2, r2⟩ := trodAll_cons r1
  obtain ⟨rfl, rfl, rfl⟩ := trodAll_nil r2
  obtain rfl : args = #[v0, v1, v2] := by cases args; simp_all
  obtain ⟨rfl, rfl⟩ := trodVars_none hV
  obtain ⟨a0, len0, cap0, rfl⟩ := okWide_slice Tryd.underlying22 (hval 0 22 v0 rfl rfl)
  have lt0 : ∀ x ∈ p0, x.block < W.heap.size := by obtain ⟨m, hm⟩ := h0; exact DataW.trod_lt m _ _ _ hm
  obtain ⟨xs0, s0, b0⟩ := letters_of h0 (Nat.le_refl _) (fun el sp e => by have := sized_slice hsz (j := 0) (t := 22) (e := 31) rfl (by rw [e]; rfl) Tryd.underlying22; rwa [bytesA] at this)
  obtain ⟨a1, len1, cap1, rfl⟩ := okWide_slice Tryd.underlying39 (hval 1 39 v1 rfl rfl)
  have lt1 : ∀ x ∈ p1, x.block < W.heap.size := by obtain ⟨m, hm⟩ := h1; exact DataW.trod_lt m _ _ _ hm
  obtain ⟨xs1, s1, z1, b1⟩ := strs_of h1 (Nat.le_refl _) (fun el sp e => by have := sized_slice hsz (j := 1) (t := 39) (e := 9) rfl (by rw [e]; rfl) Tryd.underlying39; rwa [bytesT] at this)
  obtain ⟨xs2, rfl, rfl, rfl, z2⟩ := open_string Tryd.underlying9 (hval 2 9 v2 rfl rfl) h2
  clear hA0
  refine (walk a0 len0 cap0 xs0 a1 len1 cap1 xs1 xs2 W (tabs_of hL) s0 b0 s1 z1 b1 z2).mono fun e W' ⟨he, bel⟩ => ?_
  subst he
  exact ⟨_, rfl, _, _, _, [], _, [], hW', trodAll_mk1 (shut_bool Tryd.underlying4 _), (trodAll_cons_mk (Below.trod laidOut (by kernel_rfl) (of_decide_eq_true (by kernel_rfl)) h0 bel lt0) (trodAll_cons_mk (Below.trod laidOut (by kernel_rfl) (of_decide_eq_true (by kernel_rfl)) h1 bel lt1) (trodAll_cons_mk (shut_string Tryd.underlying9 z2) trodAll_mk0))), rfl, Below.frame bel _, fun h => by cases h⟩

theorem witness_row (os : Os) {H : Type} (enc : TypeId × Value → H) :
    (OpenSpec.ofChange Rows.alphabetSortedSpec).preRow enc Tryd.prog Tryd.f11 Rows.alphabetSortedRow.domain false Rows.alphabetSortedRow.laid ((laidWorld os).forCall (fun _ _ => 0) ⟨#[], #[.slice none 0 0, .slice none 0 0, .string ⟨#[]⟩], []⟩).memory #[.slice none 0 0, .slice none 0 0, .string ⟨#[]⟩] := by
  have hw : (DataW.whole enc Tryd.prog ((laidWorld os).forCall (fun _ _ => 0) ⟨#[], #[.slice none 0 0, .slice none 0 0, .string ⟨#[]⟩], []⟩).memory Tryd.f11.params.toList Rows.alphabetSortedSpec.vars false (#[.slice none 0 0, .slice none 0 0, .string ⟨#[]⟩] : Array Value).toList 8).map (fun x => (x.1, x.2.1)) =
      some ([.nil, .nil, .lit (.string [])], []) := by kernel_rfl
  obtain ⟨⟨x1, x2, x3⟩, hx, hx1⟩ := Option.map_eq_some_iff.1 hw
  simp only [Prod.mk.injEq] at hx1
  obtain ⟨rfl, rfl⟩ := hx1
  exact OpenSpec.preRow_of_cond 8 hx (by kernel_rfl) (fun k hk => by cases hk) (by kernel_rfl) (laid_met os _)

set_option maxRecDepth 100000 in
theorem lifted (os : Os) (started : os.Started) (H : Type) (enc : TypeId × Value → H) (F : Stop.Interp) :
    ReturnsInHanded {} Tryd.checked os 11 .any ((OpenSpec.ofChange Rows.alphabetSortedSpec).preRow enc Tryd.prog Tryd.f11 Rows.alphabetSortedRow.domain false Rows.alphabetSortedRow.laid) (((OpenSpec.ofChange Rows.alphabetSortedSpec).at F).post enc Tryd.prog Tryd.f11 false true false false) := by
  refine returnsInHanded_of_row (C := Tryd.checked) (s := (OpenSpec.ofChange Rows.alphabetSortedSpec)) own started (by kernel_rfl) Tryd.func11
    (witness_row_atRef (enc := enc) (C := Tryd.checked) false (laidWorld os) #[.slice none 0 0, .slice none 0 0, .string ⟨#[]⟩] rfl (by kernel_rfl) (by kernel_rfl) (by kernel_rfl) (witness_row os enc)) ?_
  intro W base args ds gs before hval hW _ _ hsz hL _ _
  exact contract H enc W base args ds gs before hval hW hsz hL

theorem row : Rows.AlphabetSortedSaid :=
  OpenClaim.holds_of_cond 11 Tryd.f11 rfl rfl rfl rfl rfl rfl rfl ⟨rfl, rfl, rfl, rfl, rfl⟩ rfl rfl rfl rfl rfl (by kernel_rfl) Tryd.func11 (by kernel_rfl)
    (of_decide_eq_true (by kernel_rfl)) (by unfold Func.isWrapper; rw [if_neg (of_decide_eq_false (by kernel_rfl))]; exact ⟨rfl, rfl⟩)
    (fun os started H enc _ F0 => by rw [OpenClaim.pre_eq_preRow]; exact lifted os started H enc F0)

/-- No parameter wants a stand-in; the program's own looks are off. -/
theorem plain (f : FuncId) (fn : Func) (hf : Tryd.pinned.checked.prog.funcNamed "pentaglot/pentaglotlaw01.AlphabetSorted" = some f) (hfn : Tryd.pinned.checked.prog.funcs[f]? = some fn) :
    false = Tryd.pinned.checked.prog.looks [] ∧ ∀ (j : Nat) t, fn.params[j]? = some t → Tryd.pinned.checked.prog.wantsStandIn t = false := by
  obtain rfl : f = 11 := Option.some.inj ((show Tryd.prog.funcNamed "pentaglot/pentaglotlaw01.AlphabetSorted" = some 11 by kernel_rfl).symm.trans hf) |>.symm
  obtain rfl : fn = Tryd.f11 := (Option.some.inj (Tryd.func11.symm.trans hfn)).symm
  refine ⟨by kernel_rfl, fun j t ht => ?_⟩
  rw [Tryd.params11] at ht
  have hm : t = 22 ∨ t = 39 ∨ t = 9 := by simpa using Array.mem_of_getElem? ht
  rcases hm with rfl | rfl | rfl
  · exact (show Tryd.prog.wantsStandIn 22 = false by kernel_rfl)
  · exact (show Tryd.prog.wantsStandIn 39 = false by kernel_rfl)
  · exact (show Tryd.prog.wantsStandIn 9 = false by kernel_rfl)

theorem proved : Rows.AlphabetSortedCardSaid :=
  Claim7.holds_tied_plain_at .later [] _ _ _ _ row (fun _ h => by cases h) (by kernel_rfl) (fun _ h => by cases h) alphabetSorted_row_tie rfl ⟨rfl, rfl⟩ (by kernel_rfl) rfl plain (by kernel_rfl)
#print axioms proved
end Go.Proofs.YtjjgfolplpbaiaaDoor.lawASorted
