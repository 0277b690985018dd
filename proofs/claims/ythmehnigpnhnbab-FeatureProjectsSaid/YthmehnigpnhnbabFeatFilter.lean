/-
  filter returns the features that pass a test; Project and Without those whose names are in a list, and the others; the reference's Select either. Condition: the slices hold the features and the names, no string is longer than a string can be, and the features are no more than an argument can hold.
-/
import Derived.Test.YthmehnigpnhnbabFeatSet
import Derived.Test.YthmehnigpnhnbabFeatValid
import Derived.Laws.EntriesVeiled
namespace Go.Proofs.Ythmehnigpnhnbab
open Go.RowKit
open FeatPlain

/-- Function g, with what it captured, tells in every later world whether a feature has p. -/
def TestOn (w : World) (g : Nat) (pc : Value) (p : Ft → Bool) : Prop := ∀ w1, Aft w w1 → ∀ f : Ft, f.1.size ≤ maxLen → Calls Try.prog g #[.agg #[.string f.1, .string f.2], pc] w1 (BoolPost w1 (p f))

theorem TestOn.aft {w w1 : World} {g : Nat} {pc : Value} {p : Ft → Bool} (h : TestOn w g pc p) (a : Aft w w1) : TestOn w1 g pc p := fun w2 k => h w2 (a.trans k)

set_option maxRecDepth 100000 in
set_option maxHeartbeats 1600000 in
theorem filter_any (A : Option Addr) (n c : Nat) (xs : List Ft) (g : Nat) (pc : Value) (p : Ft → Bool) (w : World) (ha : Sl w A n c xs) (hz : Sized xs) (ht : TestOn w g pc p) (hcf : ∀ args w, (callFunc g args).run Try.prog w = .ok (.enter g args) w) (hsz : n * 32 ≤ 140737488351232) :
    Calls Try.prog 45 #[.slice A n c, .func (.func g) #[] #[pc]] w (SlPost w (xs.filter p)) := by
  have hn := ha.max
  have hnc := ha.le
  have hlen := Lib.hid ha.len
  have HT := Lib.hid ht
  clear ht
  obtain ⟨i0, hi, hz0, hz1, hz2⟩ := info_parts Try.infoF
  go_enter Try.func45, Try.ntmps45
  go_wp2
  go_loopw [5, 10] (fun v i wr => ∃ k out, k ≤ n ∧ i = .int .i64 (k : Nat) ∧ wr.ownsRow w.heap.size 29 2 v out.length (flat out) ∧ out.length ≤ k ∧ xs.filter p = out ++ (xs.drop k).filter p ∧ Aft w wr) (fun _ i _ => n - (intOf i).toNat)
  case atStart => exact ⟨0, [], Nat.zero_le _, rfl, World.ownsRow_nil _ _ _ _, by simp, by simp, Aft.refl _⟩
  case round =>
    obtain ⟨k, out, hk, rfl, own, le, eq, haf⟩ := hrel
    have HE := Lib.hid eq
    have HOWN := Lib.hid own
    clear eq own
    by_cases hlt : k < n
    · obtain ⟨b, off, f, rfl, hf, h1, h2⟩ := ha.at_ hlt
      have c1 := haf.cell h1
      have c2 := haf.cell h2
      have hf1 : f.1.size ≤ maxLen := (hz f (List.mem_of_getElem? hf)).1
      have HF := Lib.hid hf
      clear hf h1 h2
      have hq0 := fun w1 a => HT.out w1 a f hf1
      have HQ := Lib.hid hq0
      clear hq0
      by_cases hh : p f = true
      · rw [hh] at HQ
        go_wp2_with fail
        refine (HQ.out _ (haf.alloc _)).mono ?_
        rintro e w1 ⟨rfl, A1⟩
        have d1 : w1.cell? ⟨wr.heap.size, 0, none⟩ = some (.string f.1) := A1.cell (one_cells wr f 0 _ rfl)
        have d2 : w1.cell? ⟨wr.heap.size, 1, none⟩ = some (.string f.2) := A1.cell (one_cells wr f 1 _ rfl)
        have O1 := Lib.hid (own_aft HOWN.out (((Aft.refl wr).alloc _).trans A1))
        have hs1 := ((haf.alloc _).trans A1).size
        have haf1 := Lib.hid ((haf.alloc _).trans A1)
        clear A1 c1 c2
        go_wp2_with (at_builtin; refine wpList_append_own _ rfl _ _ 22 rfl w.heap.size 29 i0 _ 2 32 Try.underlying22 hi hz0 hz1 hz2 rfl (by decide) _ _ _ rfl (O1.out.alloc _) ⟨w1.heap.size, 0, none⟩ 1 1 (flat [f]) rfl rfl (one_cells _ f) (flat_one _) (by unfold maxLen; omega) (by omega) (by simp; omega) ?_; intro v' w2 own2 grow2 _)
        have hv' : ∃ g cap, v' = .slice (some ⟨g, 0, none⟩) (out.length + 1) cap := by
          rcases own2.2 with ⟨_, h0⟩ | ⟨g, cap, cur, hv, _⟩
          · omega
          · exact ⟨g, cap, hv⟩
        have hrel : ∀ V, v' = V → ∃ k_1 out_1, k_1 ≤ n ∧ Value.int .i64 ((k : Int) + 1) = .int .i64 (k_1 : Nat) ∧ w2.ownsRow w.heap.size 29 2 V (List.length out_1) (flat out_1) ∧ out_1.length ≤ k_1 ∧ xs.filter p = out_1 ++ (xs.drop k_1).filter p ∧ Aft w w2 := by
          rintro V rfl
          refine ⟨k + 1, out ++ [f], by omega, by go_num, ?_, by simp; omega, ?_, ((haf1.out.alloc _).grown grow2 (row_lt O1.out))⟩
          · rw [flat_append, List.length_append]
            exact own2
          · have := filter_step HE.out HF.out
            rwa [if_pos hh] at this
        have HR := Lib.hid hrel
        clear hrel
        obtain ⟨g', cap', rfl⟩ := hv'
        clear own2 grow2
        go_wp2
        go_roundw
        case rel => exact HR.out _ rfl
        case measure => simp [intOf]; omega
      · have hh' : p f = false := by simpa using hh
        rw [hh'] at HQ
        go_wp2_with fail
        refine (HQ.out _ (haf.alloc _)).mono ?_
        rintro e w1 ⟨rfl, A1⟩
        have haf1 := Lib.hid ((haf.alloc _).trans A1)
        have O1 := Lib.hid (own_aft HOWN.out (((Aft.refl wr).alloc _).trans A1))
        clear A1
        go_wp2
        go_roundw
        case rel => exact ⟨k + 1, out, by omega, by go_num, O1.out, by omega, by have := filter_step HE.out HF.out; simpa [hh'] using this, haf1.out⟩
        case measure => simp [intOf]; omega
    · obtain rfl : k = n := by omega
      have hfin := Sl.of_row HOWN.out rfl (by omega)
      obtain ⟨A3, c3, rfl, s3⟩ := hfin
      go_wp2
      go_ret
      refine ⟨⟨_, _, _, rfl, ?_⟩, haf⟩
      have e := HE.out
      rw [List.drop_of_length_le (by rw [hlen.out]; exact Nat.le_refl _), List.filter_nil, List.append_nil] at e
      rw [e]
      exact s3

theorem enter60 (args : Array Value) (w : World) : (callFunc 60 args).run Try.prog w = .ok (.enter 60 args) w := by go_simp
theorem enter47 (args : Array Value) (w : World) : (callFunc 47 args).run Try.prog w = .ok (.enter 47 args) w := by go_simp

theorem project_any (A : Option Addr) (n c : Nat) (xs : List Ft) (B : Option Addr) (m d : Nat) (ss : List ByteArray) (w : World) (ha : Sl w A n c xs) (hz : Sized xs) (hb : Ss w B m d ss) (hy : ∀ s ∈ ss, s.size ≤ maxLen) (hsz : n * 32 ≤ 140737488351232) :
    Calls Try.prog 24 #[.slice A n c, .slice B m d] w (SlPost w (xs.filter fun f => inB ss f.1)) := by
  go_enter Try.func24, Try.ntmps24
  go_wp2_with fail
  refine (among_any B m d ss w hb hy).mono ?_
  rintro e w1 ⟨Bc, Bm, k, D, rfl, hc, hset, A1⟩
  go_wp2_with fail
  refine (filter_any A n c xs _ _ (fun f => inB ss f.1) w1 (ha.aft A1) hz (fun w2 a f hf => among1_any f Bc Bm k D ss w2 (a.cell hc) (hset.aft a) hf) enter60 hsz).mono ?_
  rintro e w2 ⟨⟨U, un, uc, rfl, su⟩, A2⟩
  go_wp2
  go_ret
  exact ⟨⟨_, _, _, rfl, su⟩, A1.trans A2⟩

theorem without_any (A : Option Addr) (n c : Nat) (xs : List Ft) (B : Option Addr) (m d : Nat) (ss : List ByteArray) (w : World) (ha : Sl w A n c xs) (hz : Sized xs) (hb : Ss w B m d ss) (hy : ∀ s ∈ ss, s.size ≤ maxLen) (hsz : n * 32 ≤ 140737488351232) :
    Calls Try.prog 25 #[.slice A n c, .slice B m d] w (SlPost w (xs.filter fun f => !(inB ss f.1))) := by
  go_enter Try.func25, Try.ntmps25
  go_wp2_with fail
  refine (among_any B m d ss w hb hy).mono ?_
  rintro e w1 ⟨Bc, Bm, k, D, rfl, hc, hset, A1⟩
  go_wp2_with fail
  have B1 := (Aft.refl w1).alloc (.cells #[.func (.func 60) #[] #[.pointer (some ⟨Bc, 0, none⟩)]] 65)
  have ho : (w1.alloc (.cells #[.func (.func 60) #[] #[.pointer (some ⟨Bc, 0, none⟩)]] 65)).cell? ⟨w1.heap.size, 0, none⟩ = some (.func (.func 60) #[] #[.pointer (some ⟨Bc, 0, none⟩)]) := cell_one_new _ _ _ 0 _ rfl
  refine (filter_any A n c xs _ _ (fun f => !(inB ss f.1)) _ (ha.aft (A1.trans B1)) hz (fun w2 a f hf => without1_any f _ Bc Bm k D ss w2 (a.cell ho) (a.cell (B1.cell hc)) ((hset.aft B1).aft a) hf) enter47 hsz).mono ?_
  rintro e w2 ⟨⟨U, un, uc, rfl, su⟩, A2⟩
  go_wp2
  go_ret
  exact ⟨⟨_, _, _, rfl, su⟩, (A1.trans B1).trans A2⟩

/-- Is the feature's name in the list, if so it is asked? -/
def selB (ss : List ByteArray) (y : Bool) (f : Ft) : Bool := inB ss f.1 == y

set_option maxRecDepth 100000 in
set_option maxHeartbeats 1600000 in
theorem refSelect_any (A : Option Addr) (n c : Nat) (xs : List Ft) (B : Option Addr) (m d : Nat) (ss : List ByteArray) (y : Bool) (w : World) (ha : Sl w A n c xs) (hb : Ss w B m d ss) (hsz : n * 32 ≤ 140737488351232) :
    Calls Try.prog 26 #[.slice A n c, .slice B m d, .bool y] w (SlPost w (xs.filter (selB ss y))) := by
  have hn := ha.max
  have hnc := ha.le
  have hlen := Lib.hid ha.len
  obtain ⟨i0, hi, hz0, hz1, hz2⟩ := info_parts Try.infoF
  go_enter Try.func26, Try.ntmps26
  go_wp2
  have own0 : (w.alloc (.cells #[] 29)).ownsRow w.heap.size 29 2 (.slice (some ⟨w.heap.size, 0, none⟩) 0 0) 0 [] := World.ownsRow_lit w #[] 0 (Nat.le_refl _) (by unfold maxLen; omega) rfl
  go_loopw [7, 8] (fun v i wr => ∃ k out, k ≤ n ∧ i = .int .i64 (k : Nat) ∧ wr.ownsRow w.heap.size 29 2 v out.length (flat out) ∧ out.length ≤ k ∧ xs.filter (selB ss y) = out ++ (xs.drop k).filter (selB ss y) ∧ Aft w wr) (fun _ i _ => n - (intOf i).toNat)
  case atStart => exact ⟨0, [], Nat.zero_le _, rfl, own0, by simp, by simp, (Aft.refl _).alloc _⟩
  case round =>
    obtain ⟨k, out, hk, rfl, own, le, eq, haf⟩ := hrel
    have HE := Lib.hid eq
    have HOWN := Lib.hid own
    clear eq own own0
    by_cases hlt : k < n
    · obtain ⟨b, off, f, rfl, hf, h1, h2⟩ := ha.at_ hlt
      have c1 := haf.cell h1
      have c2 := haf.cell h2
      have HF := Lib.hid hf
      clear hf
      by_cases hh : selB ss y f = true
      · go_wp2_with fail
        have hc := refIn_any B m d ss f.1 wr (hb.aft haf)
        have hin : inB ss f.1 = y := by simpa [selB] using hh
        rw [hin] at hc
        clear hin
        refine hc.mono ?_
        rintro e w1 ⟨rfl, q1⟩
        have A1 := quiet_aft q1
        clear q1
        have d1 := (haf.trans A1).cell h1
        have d2 := (haf.trans A1).cell h2
        have O1 := Lib.hid (own_aft HOWN.out A1)
        have hs1 := (haf.trans A1).size
        clear hc c1 c2
        go_wp2_with (at_builtin; refine wpList_append_own _ rfl _ _ 22 rfl w.heap.size 29 i0 _ 2 32 Try.underlying22 hi hz0 hz1 hz2 rfl (by decide) _ _ _ rfl (O1.out.alloc _) ⟨w1.heap.size, 0, none⟩ 1 1 (flat [f]) rfl rfl (one_cells _ f) (flat_one _) (by unfold maxLen; omega) (by omega) (by simp; omega) ?_; intro v' w2 own2 grow2 _)
        have hv' : ∃ g cap, v' = .slice (some ⟨g, 0, none⟩) (out.length + 1) cap := by
          rcases own2.2 with ⟨_, h0⟩ | ⟨g, cap, cur, hv, _⟩
          · omega
          · exact ⟨g, cap, hv⟩
        have hrel : ∀ V, v' = V → ∃ k_1 out_1, k_1 ≤ n ∧ Value.int .i64 ((k : Int) + 1) = .int .i64 (k_1 : Nat) ∧ w2.ownsRow w.heap.size 29 2 V (List.length out_1) (flat out_1) ∧ out_1.length ≤ k_1 ∧ xs.filter (selB ss y) = out_1 ++ (xs.drop k_1).filter (selB ss y) ∧ Aft w w2 := by
          rintro V rfl
          refine ⟨k + 1, out ++ [f], by omega, by go_num, ?_, by simp; omega, ?_, (((haf.trans A1).alloc _).grown grow2 (row_lt O1.out))⟩
          · rw [flat_append, List.length_append]
            exact own2
          · have := filter_step HE.out HF.out
            rwa [if_pos hh] at this
        have HR := Lib.hid hrel
        clear hrel
        obtain ⟨g', cap', rfl⟩ := hv'
        clear own2 grow2
        go_wp2
        go_roundw
        case rel => exact HR.out _ rfl
        case measure => simp [intOf]; omega
      · have hh' : selB ss y f = false := by simpa using hh
        go_wp2_with fail
        have hc := refIn_any B m d ss f.1 wr (hb.aft haf)
        have hin : inB ss f.1 = !y := by unfold selB at hh'; cases y <;> cases hb' : inB ss f.1 <;> simp_all
        rw [hin] at hc
        clear hin
        refine hc.mono ?_
        rintro e w1 ⟨rfl, q1⟩
        have A1 := quiet_aft q1
        clear q1
        clear hc
        go_wp2
        go_roundw
        case rel => exact ⟨k + 1, out, by omega, by go_num, own_aft HOWN.out A1, by omega, by have := filter_step HE.out HF.out; simpa [hh'] using this, haf.trans A1⟩
        case measure => simp [intOf]; omega
    · obtain rfl : k = n := by omega
      have hfin := Sl.of_row HOWN.out rfl (by omega)
      obtain ⟨A3, c3, rfl, s3⟩ := hfin
      go_wp2
      go_ret
      refine ⟨⟨_, _, _, rfl, ?_⟩, haf⟩
      have e := HE.out
      rw [List.drop_of_length_le (by rw [hlen.out]; exact Nat.le_refl _), List.filter_nil, List.append_nil] at e
      rw [e]
      exact s3
end Go.Proofs.Ythmehnigpnhnbab
