/-
  strings.ContainsAny tells of every string of at most 200 bytes whether a blank or a line feed is in it: short strings are read rune by rune (IndexRune), long ones byte by byte. Conditions: as each theorem says.
-/
import Derived.Test.YtpkhoklahcgcoaaDoorLexAwake
import Derived.Test.YtpkhoklahcgcoaaDoorShelfR
import Derived.Lib.MapLaws
import Derived.Lib.OthersKept
import Derived.Lib.RuneCountTail
import Derived.Laws.EntriesVeiled
import Derived.BigQuiet
import Derived.WalkMore
import Derived.Shelf.Strings.IndexAnyAll
namespace Go.Proofs.YtpkhoklahcgcoaaDoor
open Go.RowKit
open FeatPlain
open Go.Lib (decodeL decodeN)

def blankL (l : List UInt8) : Bool := l.any fun b => b == 32 || b == 10
def blankR (r : Nat) : Bool := decide (r = 32) || decide (r = 10)
theorem byte_blank (b : UInt8) : (b == 32 || b == 10) = blankR b.toNat := by
  have e (n : Nat) (hn : n < 256) : (b == UInt8.ofNat n) = decide (b.toNat = n) := by
    rw [Bool.eq_iff_iff, beq_iff_eq, decide_eq_true_eq]
    constructor
    · rintro rfl; simp [Nat.mod_eq_of_lt hn]
    · intro h; exact UInt8.toNat_inj.1 (by simp [Nat.mod_eq_of_lt hn]; omega)
  unfold blankR
  rw [← e 32 (by omega), ← e 10 (by omega)]
  rfl
theorem blankL_cons (b : UInt8) (l : List UInt8) : blankL (b :: l) = (blankR b.toNat || blankL l) := by rw [← byte_blank]; rfl
theorem blankR_hi {n : Nat} (h : 128 ≤ n) : blankR n = false := by unfold blankR; simp; omega
theorem dec_hi (n b0 b1 b2 b3 : Nat) (h : 128 ≤ b0) : 128 ≤ (decodeN n b0 b1 b2 b3).1 ∧ ((decodeN n b0 b1 b2 b3).2 = 1 ∨ ((decodeN n b0 b1 b2 b3).2 = 2 ∧ 1 < n ∧ b1 / 64 = 2) ∨ ((decodeN n b0 b1 b2 b3).2 = 3 ∧ 2 < n ∧ b1 / 64 = 2 ∧ b2 / 64 = 2) ∨ ((decodeN n b0 b1 b2 b3).2 = 4 ∧ 3 < n ∧ b1 / 64 = 2 ∧ b2 / 64 = 2 ∧ b3 / 64 = 2)) := by
  unfold decodeN
  rw [if_neg (by omega)]
  repeat' split
  all_goals (simp; try omega)
theorem dec_range (n b0 b1 b2 b3 : Nat) : (decodeN n b0 b1 b2 b3).1 < 55296 ∨ 57343 < (decodeN n b0 b1 b2 b3).1 := by
  unfold decodeN
  repeat' split
  all_goals (simp; try omega)
/-- The first rune of a list of bytes tells of its bytes; the rest tells the rest. -/
theorem blank_step (l : List UInt8) (hne : l ≠ []) : blankL l = (blankR (decodeL l).1 || blankL (l.drop (decodeL l).2)) := by
  cases l with
  | nil => exact absurd rfl hne
  | cons b0 t =>
    rw [Lib.decodeL_N, blankL_cons]
    by_cases h : b0.toNat < 128
    · have e : decodeN (b0 :: t).length ((b0 :: t).getD 0 0).toNat ((b0 :: t).getD 1 0).toNat ((b0 :: t).getD 2 0).toNat ((b0 :: t).getD 3 0).toNat = (b0.toNat, 1) := by
        unfold decodeN
        rw [if_pos (by simpa using h)]
        rfl
      rw [e]; rfl
    · have k := dec_hi (b0 :: t).length ((b0 :: t).getD 0 0).toNat ((b0 :: t).getD 1 0).toNat ((b0 :: t).getD 2 0).toNat ((b0 :: t).getD 3 0).toNat (by simp; omega)
      generalize decodeN (b0 :: t).length ((b0 :: t).getD 0 0).toNat ((b0 :: t).getD 1 0).toNat ((b0 :: t).getD 2 0).toNat ((b0 :: t).getD 3 0).toNat = d at k ⊢
      obtain ⟨k1, k2⟩ := k
      rw [blankR_hi k1, blankR_hi (by omega)]
      rcases k2 with e | ⟨e, q, q1⟩ | ⟨e, q, q1, q2⟩ | ⟨e, q, q1, q2, q3⟩
      · rw [e]; rfl
      · rw [e]
        match t, q, q1 with
        | b1 :: t, _, q1 => rw [blankL_cons, blankR_hi (by simp at q1; omega)]; rfl
      · rw [e]
        match t, q, q1, q2 with
        | b1 :: b2 :: t, _, q1, q2 => rw [blankL_cons, blankL_cons, blankR_hi (by simp at q1; omega), blankR_hi (by simp at q2; omega)]; rfl
        | [b1], q, _, _ => simp at q
      · rw [e]
        match t, q, q1, q2, q3 with
        | b1 :: b2 :: b3 :: t, _, q1, q2, q3 => rw [blankL_cons, blankL_cons, blankL_cons, blankR_hi (by simp at q1; omega), blankR_hi (by simp at q2; omega), blankR_hi (by simp at q3; omega)]; rfl
        | [b1, b2], q, _, _, _ => simp at q
        | [b1], q, _, _, _ => simp at q
theorem enc_two {r : Int} (h0 : 128 ≤ r) (h1 : r < 2048) : ∃ b0 b1 : UInt8, Utf8.encode r = ⟨#[b0, b1]⟩ ∧ 128 ≤ b1.toNat := by
  refine ⟨UInt8.ofNat (0xC0 + r.toNat / 64), UInt8.ofNat (0x80 + r.toNat % 64), ?_, ?_⟩
  · unfold Utf8.encode
    have hv : Utf8.valid r = true := by unfold Utf8.valid; simp; omega
    simp only [hv, if_true]
    rw [if_neg (by omega), if_pos (by omega)]
  · simp
    omega
theorem enc_more {r : Int} (h0 : 2048 ≤ r) (h1 : r ≤ 1114111) (h2 : r < 55296 ∨ 57343 < r) : 3 ≤ (Utf8.encode r).size ∧ (Utf8.encode r).size ≤ 4 := by
  unfold Utf8.encode
  have hv : Utf8.valid r = true := by unfold Utf8.valid; simp; omega
  simp only [hv, if_true]
  rw [if_neg (by omega), if_neg (by omega)]
  split
  · exact ⟨show 3 ≤ 3 from Nat.le_refl _, show 3 ≤ 4 by omega⟩
  · exact ⟨show 3 ≤ 4 by omega, show 4 ≤ 4 from Nat.le_refl _⟩

abbrev bl : ByteArray := ⟨#[32, 10]⟩
theorem iterC_aft {w wr : World} (h : Aft w wr) {k : Nat} (hk : w.heap.size ≤ k) (s : ByteArray) (p : Nat) : Aft w (wr.iterAt k s p) := Lib.below_iterAt h hk s p
theorem validRuneC (r : Int) (h0 : 128 ≤ r) (h1 : r ≤ 1114111) (h2 : r < 55296 ∨ 57343 < r) (w : World) : Calls Tryd.prog 95 #[.int .i32 r] w (fun e w' => e = .returned (.bool true) ∧ w = w') := by
  rcases h2 with h2 | h2
  · go_enter Tryd.func95, Tryd.ntmps95
    go_wp2
    go_ret
    exact ⟨rfl, rfl⟩
  · have h3 : ¬ r < 55296 := by omega
    go_enter Tryd.func95, Tryd.ntmps95
    go_wp2
    go_ret
    exact ⟨rfl, rfl⟩
theorem shouldASCII (n : Nat) (w : World) (h : n ≤ 8) : Calls Tryd.prog 78 #[.int .i64 (n : Nat)] w (fun e w' => e = .returned (.bool false) ∧ w = w') := by
  have h' : ¬ (8 : Int) < (n : Int) := by omega
  go_enter Tryd.func78, Tryd.ntmps78
  go_wp2
  go_ret
  exact ⟨rfl, rfl⟩
theorem sliceC (w : World) : (Instr.slice 9 (.string bl) (some (.int .i64 2)) none none).run Tryd.prog w = .ok (.string ⟨#[]⟩) w := by kernel_rfl
theorem wrapC : IntKind.i64.wrap 2 = 2 := by kernel_rfl
def MinusPost (w : World) (e : Ending) (w' : World) : Prop := e = .returned (.int .i64 (-1)) ∧ Aft w w'

set_option maxRecDepth 100000 in
set_option maxHeartbeats 1600000 in
theorem indexRune_err (w : World) : Calls Tryd.prog 77 #[.string bl, .int .i32 65533] w (MinusPost w) := by
  go_enter Tryd.func77, Tryd.ntmps77
  go_wp2
  go_loopw [5, 6] (fun _ _ wr => ∃ p : Nat, wr.heap[w.heap.size]? = some (.stringIter bl p) ∧ (p = 0 ∨ p = 1 ∨ p = 2) ∧ Aft w wr) (fun _ _ wr => 2 - wr.iterPos w.heap.size)
  case atStart => exact ⟨0, World.iter_heap _ _ _, .inl rfl, (Aft.refl _).alloc _⟩
  case round =>
    obtain ⟨p, hit, hp, haf⟩ := hrel
    rcases hp with rfl | rfl | rfl
    · have hnx := fun ty => Lib.run_next_any_at (P := Tryd.prog) wr w.heap.size bl 0 ty hit (by decide)
      have hd : Utf8.decode bl 0 = (32, 1) := by decide
      rw [hd] at hnx
      have af1 := iterC_aft haf (Nat.le_refl _) bl (0 + 1)
      have it1 := Lib.hid (Lib.iterAt_heap wr w.heap.size bl 0 (0 + 1) hit)
      go_wp2
      go_roundw
      case rel => exact ⟨1, it1.out, .inr (.inl rfl), af1⟩
      case measure =>
        have q := it1.out
        simp only [Nat.zero_add] at q
        simp [World.iterPos, q, hit]
    · have hnx := fun ty => Lib.run_next_any_at (P := Tryd.prog) wr w.heap.size bl 1 ty hit (by decide)
      have hd : Utf8.decode bl 1 = (10, 1) := by decide
      rw [hd] at hnx
      have af1 := iterC_aft haf (Nat.le_refl _) bl (1 + 1)
      have it1 := Lib.hid (Lib.iterAt_heap wr w.heap.size bl 1 (1 + 1) hit)
      go_wp2
      go_roundw
      case rel => exact ⟨2, it1.out, .inr (.inr rfl), af1⟩
      case measure =>
        have q := it1.out
        simp only [Nat.reduceAdd] at q
        simp [World.iterPos, q, hit]
    · have hnx := fun ty => Lib.run_next_end_at (P := Tryd.prog) wr w.heap.size bl 2 ty hit (by decide)
      go_wp2
      go_ret
      exact ⟨rfl, haf⟩
set_option maxRecDepth 100000 in
set_option maxHeartbeats 1600000 in
theorem indexRune_more (r : Int) (w : World) (h0 : 2048 ≤ r) (h1 : r ≤ 1114111) (h2 : r < 55296 ∨ 57343 < r) (h3 : r ≠ 65533) : Calls Tryd.prog 77 #[.string bl, .int .i32 r] w (MinusPost w) := by
  obtain ⟨k1, k2⟩ := enc_more h0 h1 h2
  have HV := Lib.hid (validRuneC r (by omega) h1 h2)
  have g0 : ¬ r < 128 := by omega
  have g1 : 0 ≤ r := by omega
  have g3 : (r == 65533) = false := by simpa using h3
  have g4 : ¬ r = 65533 := h3
  clear h2
  generalize hE : Utf8.encode r = E at k1 k2
  have HE := Lib.hid hE
  go_enter Tryd.func77, Tryd.ntmps77
  go_wp2_with fail
  refine (HV.out w).mono ?_
  rintro e w1 ⟨rfl, rfl⟩
  go_wp2
  go_step3
  go_wp2
  go_loop [9, 10] (fun i _ => i = .int .i64 ((E.size : Int) - 1)) (fun _ _ => 0)
  case atStart => rfl
  case round =>
    obtain rfl := hrel
    have g5 : ¬ ((E.size : Int) - 1) < 2 := by omega
    go_wp2
    (try rw [Exit.noGoto_ret])
    go_ret
    exact ⟨rfl, Aft.refl _⟩
set_option maxRecDepth 100000 in
set_option maxHeartbeats 1600000 in
theorem indexRune_two (r : Int) (w : World) (h0 : 128 ≤ r) (h1 : r < 2048) : Calls Tryd.prog 77 #[.string bl, .int .i32 r] w (MinusPost w) := by
  obtain ⟨b0, b1, hE, hb⟩ := enc_two h0 h1
  have HV := Lib.hid (validRuneC r h0 (by omega) (by omega))
  have g0 : ¬ r < 128 := by omega
  have g1 : 0 ≤ r := by omega
  have g4 : ¬ r = 65533 := by omega
  have g3 : (r == 65533) = false := by simpa using g4
  have hne : ((((bl : ByteArray)[1]'(show 1 < 2 by omega)).toNat : Int) != (((⟨#[b0, b1]⟩ : ByteArray)[1]'(show 1 < 2 by omega)).toNat : Int)) = true := by
    show ((10 : Int) != (b1.toNat : Int)) = true
    rw [bne_iff_ne]; omega
  have HI := Lib.hid (show ∀ w, Calls Tryd.prog 94 #[.string ⟨#[]⟩, .int .u8 (((⟨#[b0, b1]⟩ : ByteArray)[1]'(show 1 < 2 by omega)).toNat : Int)] w (fun e w' => e = .returned (.int .i64 (-1)) ∧ w' = w) from fun w => (Tryd.strings_IndexByte ⟨#[]⟩ (b1.toNat : Int) w).mono fun e w' ⟨h1, h2⟩ => ⟨h1, h2⟩)
  have hsl := sliceC
  have hwr := wrapC
  go_enter Tryd.func77, Tryd.ntmps77
  go_wp2_with fail
  refine (HV.out w).mono ?_
  rintro e w1 ⟨rfl, rfl⟩
  go_wp2
  go_step3
  go_wp2
  go_loop [9, 10] (fun i _ => i = .int .i64 1) (fun _ _ => 0)
  case atStart => rfl
  case round =>
    obtain rfl := hrel
    go_wp2
    go_step3
    go_wp2
    go_quiet (fail)
    go_wp2
    refine wp_region_held_drew (S := fun _ => True) (by kernel_rfl) (trivial) (fun hHeld => ?_)
    refine take_on (i := 0) (v := ?v1) rfl (by kernel_rfl) (by kernel_rfl) (by kernel_rfl) (fun _ _ _ h => h) (by rfl) (by assumption) ?y1 ?_
    case y1 => (intro w hSw; (try dsimp only at hSw); go_simp; (try with_reducible rfl))
    try simp only [Act.put, List.setIfInBounds_toArray, List.set_cons_zero, List.set_cons_succ]
    refine take_on (i := 1) (v := ?v2) rfl (by kernel_rfl) (by kernel_rfl) (by kernel_rfl) (fun _ _ _ h => h) (by rfl) (by assumption) ?y2 ?_
    case y2 => (intro w hSw; (try dsimp only at hSw); go_simp; (try with_reducible rfl))
    try simp only [Act.put, List.setIfInBounds_toArray, List.set_cons_zero, List.set_cons_succ]
    refine take_on (i := 2) (v := ?v3) rfl (by kernel_rfl) (by kernel_rfl) (by kernel_rfl) (fun _ _ _ h => h) (by rfl) (by assumption) ?y3 ?_
    case y3 => (intro w hSw; (try dsimp only at hSw); go_simp; (try with_reducible rfl))
    try simp only [Act.put, List.setIfInBounds_toArray, List.set_cons_zero, List.set_cons_succ]
    refine take_on (i := 3) (v := ?v4) rfl (by kernel_rfl) (by kernel_rfl) (by kernel_rfl) (fun _ _ _ h => h) (by rfl) (by assumption) ?y4 ?_
    case y4 => (intro w hSw; (try dsimp only at hSw); go_simp; (try with_reducible rfl))
    try simp only [Act.put, List.setIfInBounds_toArray, List.set_cons_zero, List.set_cons_succ]
    refine take_on (i := 4) (v := ?v5) rfl (by kernel_rfl) (by kernel_rfl) (by kernel_rfl) (fun _ _ _ h => h) (by rfl) (by assumption) ?y5 ?_
    case y5 => (intro w hSw; (try dsimp only at hSw); go_simp; (try with_reducible rfl))
    try simp only [Act.put, List.setIfInBounds_toArray, List.set_cons_zero, List.set_cons_succ]
    refine take_on (i := 5) (v := ?v6) rfl (by kernel_rfl) (by kernel_rfl) (by kernel_rfl) (fun _ _ _ h => h) (by rfl) (by assumption) ?y6 ?_
    case y6 => (intro w hSw; (try dsimp only at hSw); go_simp; (try with_reducible rfl))
    try simp only [Act.put, List.setIfInBounds_toArray, List.set_cons_zero, List.set_cons_succ]
    refine take_on (i := 6) (v := ?v7) rfl (by kernel_rfl) (by kernel_rfl) (by kernel_rfl) (fun _ _ _ h => h) (by rfl) (by assumption) ?y7 ?_
    case y7 => (intro w hSw; (try dsimp only at hSw); go_simp; (try with_reducible rfl))
    try simp only [Act.put, List.setIfInBounds_toArray, List.set_cons_zero, List.set_cons_succ]
    refine one_ready (i := 7) rfl (by kernel_rfl) (by rfl) (fun K hK => ?_)
    go_simp
    refine (HI.out _).mono ?_
    rintro e w2 ⟨rfl, rfl⟩
    refine hK.out _ _ (trivial) (fun hHeld => ?_)
    clear hK K
    try simp only [Act.put, List.setIfInBounds_toArray, List.set_cons_zero, List.set_cons_succ]
    refine take_on (i := 8) (v := ?v9) rfl (by kernel_rfl) (by kernel_rfl) (by kernel_rfl) (fun _ _ _ h => h) (by rfl) (by assumption) ?y9 ?_
    case y9 => (intro w hSw; (try dsimp only at hSw); go_simp; (try with_reducible rfl))
    try simp only [Act.put, List.setIfInBounds_toArray, List.set_cons_zero, List.set_cons_succ]
    refine wpAnyH_done (by kernel_rfl) ?_ _
    go_wp2
    (try rw [Exit.noGoto_ret])
    go_ret
    exact ⟨rfl, ((Aft.refl _).drewN _).drew⟩
theorem indexRune_hi (r : Int) (w : World) (h0 : 128 ≤ r) (h1 : r ≤ 1114111) (h2 : r < 55296 ∨ 57343 < r) : Calls Tryd.prog 77 #[.string bl, .int .i32 r] w (MinusPost w) := by
  by_cases h3 : r = 65533
  · subst h3; exact indexRune_err w
  · by_cases h4 : r < 2048
    · exact indexRune_two r w h0 h4
    · exact indexRune_more r w (by omega) h1 h2 h3
theorem decode_range (s : ByteArray) (p : Nat) : ((Utf8.decode s p).1 : Int) ≤ 1114111 ∧ (((Utf8.decode s p).1 : Int) < 55296 ∨ 57343 < ((Utf8.decode s p).1 : Int)) := by
  rw [← Lib.decodeL_drop]
  have h1 := Lib.decodeL_rune (s.data.toList.drop p)
  have h2 : (decodeL (s.data.toList.drop p)).1 < 55296 ∨ 57343 < (decodeL (s.data.toList.drop p)).1 := by rw [Lib.decodeL_N]; exact dec_range _ _ _ _ _
  omega
theorem blank_at (s : ByteArray) (p : Nat) (hp : p < s.size) : blankL (s.data.toList.drop p) = (blankR (Utf8.decode s p).1 || blankL (s.data.toList.drop (p + (Utf8.decode s p).2))) := by
  have hne : s.data.toList.drop p ≠ [] := by
    intro h
    have := congrArg List.length h
    rw [List.length_drop, Array.length_toList] at this
    have e : s.data.size = s.size := rfl
    simp at this; omega
  rw [blank_step _ hne, Lib.decodeL_drop, List.drop_drop]
/-- IndexRune in a blank and a line feed tells whether the rune is one of them. -/
theorem indexRune_bl (n : Nat) (w : World) (h1 : (n : Int) ≤ 1114111) (h2 : (n : Int) < 55296 ∨ 57343 < (n : Int)) : Calls Tryd.prog 77 #[.string bl, .int .i32 (n : Int)] w (fun e w' => (∃ i : Int, e = .returned (.int .i64 i) ∧ decide (0 ≤ i) = blankR n) ∧ Aft w w') := by
  by_cases h : n < 128
  · refine (Tryd.strings_IndexRune_ascii bl (n : Int) w (by omega) (by omega)).mono ?_
    rintro e w' ⟨rfl, rfl⟩
    refine ⟨⟨_, rfl, ?_⟩, Aft.refl _⟩
    have e0 (k : Nat) (hk : k < 256) : ((UInt8.ofNat k) == n.toUInt8) = decide (n = k) := by
      rw [Bool.eq_iff_iff, beq_iff_eq, decide_eq_true_eq]
      constructor
      · intro q
        have := congrArg UInt8.toNat q
        simp [Nat.mod_eq_of_lt hk] at this
        omega
      · rintro rfl; rfl
    have e32 : ((32 : UInt8) == n.toUInt8) = decide (n = 32) := e0 32 (by omega)
    have e10 : ((10 : UInt8) == n.toUInt8) = decide (n = 10) := e0 10 (by omega)
    show decide (0 ≤ Lib.indexByte [32, 10] n.toUInt8) = blankR n
    unfold blankR
    by_cases a : n = 32
    · simp [Lib.indexByte, a]
    · by_cases b : n = 10
      · subst b; decide
      · simp [Lib.indexByte, e32, e10, a, b]
  · refine (indexRune_hi (n : Int) w (by omega) h1 h2).mono ?_
    rintro e w' ⟨rfl, A1⟩
    exact ⟨⟨-1, rfl, by rw [blankR_hi (by omega)]; decide⟩, A1⟩
set_option maxRecDepth 100000 in
set_option maxHeartbeats 1600000 in
theorem indexAny_short (s : ByteArray) (w : World) (h8 : s.size ≤ 8) : Calls Tryd.prog 56 #[.string s, .string bl] w (fun e w' => (∃ i : Int, e = .returned (.int .i64 i) ∧ decide (0 ≤ i) = blanky s) ∧ Aft w w') := by
  have HA := Lib.hid (shouldASCII s.size)
  have HB := Lib.hid (show blanky s = blankL (s.data.toList.drop 0) from rfl)
  go_enter Tryd.func56, Tryd.ntmps56
  go_wp2_with fail
  refine (HA.out w h8).mono ?_
  rintro e w1 ⟨rfl, rfl⟩
  go_wp2
  go_loopw [9, 10] (fun _ _ wr => ∃ p : Nat, wr.heap[w.heap.size]? = some (.stringIter s p) ∧ blanky s = blankL (s.data.toList.drop p) ∧ Aft w wr) (fun _ _ wr => s.size - wr.iterPos w.heap.size)
  case atStart => exact ⟨0, World.iter_heap _ _ _, HB.out, (Aft.refl _).alloc _⟩
  case round =>
    obtain ⟨p, hit, he, haf⟩ := hrel
    have HE := Lib.hid he
    clear he
    by_cases hlt : p < s.size
    · have hnx := fun ty => Lib.run_next_any_at (P := Tryd.prog) wr w.heap.size s p ty hit hlt
      have hwp := Lib.width_pos s p
      have hrg := decode_range s p
      have af1 := iterC_aft haf (Nat.le_refl _) s (p + (Utf8.decode s p).2)
      have it1 := Lib.hid (Lib.iterAt_heap wr w.heap.size s p (p + (Utf8.decode s p).2) hit)
      have hba := Lib.hid (HE.out.trans (blank_at s p hlt))
      clear HE
      generalize Utf8.decode s p = ds at hnx hwp hrg af1 it1 hba
      have HR := Lib.hid (indexRune_bl ds.1 (wr.iterAt w.heap.size s (p + ds.2)) hrg.1 hrg.2)
      clear hrg
      go_wp2_with fail
      refine HR.out.mono ?_
      rintro e w2 ⟨⟨i, rfl, hi⟩, A2⟩
      have A02 := af1.trans A2
      have it2 := Lib.hid ((Below.block A2 w.heap.size (Array.getElem?_eq_some_iff.1 it1.out).1).trans it1.out)
      by_cases hi0 : 0 ≤ i
      · rw [decide_eq_true hi0] at hi
        have HT := Lib.hid (show blanky s = true by rw [hba.out, ← hi]; rfl)
        clear hi
        go_wp2
        go_ret
        exact ⟨⟨_, rfl, by rw [HT.out]; exact decide_eq_true (by omega)⟩, A02⟩
      · rw [decide_eq_false hi0] at hi
        have HN := Lib.hid (show blanky s = blankL (s.data.toList.drop (p + ds.2)) by rw [hba.out, ← hi]; rfl)
        clear hi
        go_wp2
        go_roundw
        case rel => exact ⟨p + ds.2, it2.out, HN.out, A02⟩
        case measure =>
          simp only [World.iterPos, it2.out, hit]
          omega
    · have hnx := fun ty => Lib.run_next_end_at (P := Tryd.prog) wr w.heap.size s p ty hit hlt
      have HT := Lib.hid (show blanky s = false by
        rw [HE.out, List.drop_of_length_le (by rw [Array.length_toList]; have e : s.data.size = s.size := rfl; omega)]; rfl)
      clear HE
      go_wp2
      go_ret
      exact ⟨⟨_, rfl, by rw [HT.out]; decide⟩, haf⟩
/-- What strings.ContainsAny says of any string. -/
theorem cany_any (s : ByteArray) (hs : s.size < 4294967281) : Cany s := by
  intro w
  have key : Calls Tryd.prog 56 #[.string s, .string ⟨#[32, 10]⟩] w (fun e w' => (∃ i : Int, e = .returned (.int .i64 i) ∧ decide (0 ≤ i) = blanky s) ∧ Aft w w') := by
    by_cases h8 : s.size ≤ 8
    · exact indexAny_short s w h8
    · have h116 : (Tryd.prog.info? (Tryd.lays150_ren.t 116)).map (fun i => (i.zero, i.size)) = some (some (.agg (Array.replicate 256 (.bool false))), 256) := by kernel_rfl
      have h := Any.strings_IndexAny_long (P := Tryd.prog) (ρ := Tryd.lays150_ren) { Tryd.lays150 with } (zero_of_info h116).1 (zero_of_info h116).2 s bl w (by decide) (by omega) hs (by decide) (fun j b hj => by
        match j, hj with
        | 0, hj => simp at hj; subst hj; decide
        | 1, hj => simp at hj; subst hj; decide)
      refine h.mono ?_
      rintro e w' ⟨rfl, rfl⟩
      exact ⟨⟨_, rfl, containsAny_blanky s⟩, ((Aft.refl _).alloc _).alloc _⟩
  have HK := Lib.hid key
  clear key
  go_enter Tryd.func40, Tryd.ntmps40
  go_wp2_with fail
  refine HK.out.mono ?_
  rintro e w1 ⟨⟨i, rfl, hi⟩, A1⟩
  have HI := Lib.hid hi
  clear hi
  go_wp2
  go_ret
  exact ⟨by rw [← HI.out]; first | rfl | simp, A1⟩
end Go.Proofs.YtpkhoklahcgcoaaDoor
