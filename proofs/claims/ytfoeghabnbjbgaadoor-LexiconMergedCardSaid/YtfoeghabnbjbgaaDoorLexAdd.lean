/-
  addIDs tells whether none of the IDs is taken, or stands twice. Conditions: the slice holds the lexemes; the map is a set that the call made behind them.
-/
import Derived.Test.YtfoeghabnbjbgaaDoorLexFind
import Derived.Test.YtfoeghabnbjbgaaDoorFtAll
namespace Go.Proofs.YtfoeghabnbjbgaaDoor
open Go.RowKit Go.Maps Go.WideMaps
open FeatPlain

/-- None of the strings is in the set, and none stands twice. -/
def addB : List ByteArray → List ByteArray → Bool
  | _, [] => true
  | ss, t :: l => !inB ss t && addB (ss ++ [t]) l
theorem addB_iff : ∀ (l ss : List ByteArray), addB ss l = true ↔ ∀ j t, l[j]? = some t → inB (ss ++ l.take j) t = false
  | [], ss => by simp [addB]
  | x :: l, ss => by
    rw [addB, Bool.and_eq_true, addB_iff l, Bool.not_eq_true']
    constructor
    · rintro ⟨h1, h2⟩ j t hj
      match j, hj with
      | 0, hj => simp at hj; subst hj; simpa using h1
      | j + 1, hj =>
        have := h2 j t (by simpa using hj)
        simpa using this
    · intro h
      refine ⟨by simpa using h 0 x rfl, fun j t hj => ?_⟩
      have := h (j + 1) t (by simpa using hj)
      simpa using this
theorem run_makeMapS (w : World) : (Instr.makeMap 54 none).run Tryd.prog w = .ok (.map (some w.heap.size)) (w.alloc (.map #[] 0)) := by
  kernel_rfl

set_option maxRecDepth 100000 in
set_option maxHeartbeats 1600000 in
theorem addIDs_any (A : Option Addr) (n c : Nat) (xs : List Lx) (Bm k0 : Nat) (D : DataW Unit) (ss : List ByteArray) (w0 w : World) (ha : Ls w0 A n c xs) (h0 : Aft w0 w) (hB : w0.heap.size ≤ Bm) (hset : SetIn w Bm k0 D ss) (hn8 : n ≤ 4294967296) (hk8 : k0 ≤ 4294967296) :
    Calls Tryd.prog 22 #[.map (some Bm), .slice A n c] w (fun e w' => e = .returned (.bool (addB ss (xs.map Lx.id))) ∧ Aft w0 w') := by
  have hn := ha.max
  have hnc := ha.le
  have hcm := ha.cmax
  have hlen := Lib.hid ha.len
  have HS0 := Lib.hid hset
  clear hset
  go_enter Tryd.func22, Tryd.ntmps22
  go_wp2
  go_loopw [9] (fun i wr => ∃ k N D', k ≤ n ∧ i = .int .i64 (k : Nat) ∧ N ≤ k0 + k ∧ SetIn wr Bm N D' (ss ++ (xs.take k).map Lx.id) ∧ addB ss (xs.map Lx.id) = addB (ss ++ (xs.take k).map Lx.id) ((xs.drop k).map Lx.id) ∧ Aft w0 wr) (fun i _ => n - (intOf i).toNat)
  case atStart => exact ⟨0, k0, D, Nat.zero_le _, rfl, Nat.le_refl _, by simpa using HS0.out, by simp, h0⟩
  case round =>
    obtain ⟨k, N, D', hk, rfl, hN, hs, heq, haf⟩ := hrel
    have HS := Lib.hid hs
    have HEQ := Lib.hid heq
    clear hs heq
    by_cases hlt : k < n
    · obtain ⟨b, off, x, rfl, hx, h5, hlw⟩ := ha.at_ hlt
      obtain ⟨c0, c1, c2, c3, c4⟩ := h5.aft haf
      have HX := Lib.hid hx
      have hid := hlw.wid
      have hA1 := (Aft.refl wr).alloc (.cells #[.string x.id, .string x.cat, .string x.stem, .string x.par, .slice x.fa x.fn x.fc] 30)
      have l1 := (HS.out.aft hA1).run hid
      have HS1 := Lib.hid (HS.out.aft hA1)
      have haf1 := haf.trans hA1
      have hdr := Lib.hid (show (xs.drop k).map Lx.id = x.id :: (xs.drop (k + 1)).map Lx.id by rw [drop_of_get hx]; rfl)
      have htk := Lib.hid (show ss ++ (xs.take (k + 1)).map Lx.id = (ss ++ (xs.take k).map Lx.id) ++ [x.id] by rw [take_next hx, List.map_append, List.append_assoc]; rfl)
      clear hx h5 hlw hA1
      cases hin : inB (ss ++ (xs.take k).map Lx.id) x.id
      · rw [hin] at l1
        have HN := Lib.hid (show addB ss (xs.map Lx.id) = addB (ss ++ (xs.take (k + 1)).map Lx.id) ((xs.drop (k + 1)).map Lx.id) by rw [HEQ.out, hdr.out, addB, hin, htk.out]; rfl)
        clear hin
        go_wp2_with (at_mapUpdate; refine wpList_mapUpdate_own _ rfl _ _ _ 54 rfl 9 4 lawK Tryd.underlying54 _ Bm N D' rfl HS1.out.own (by unfold maxLen; omega) _ _ _ rfl rfl (keyOf_string_mk Tryd.underlying9 hid) _ [] (plainElem_bool Tryd.underlying4 true) ?_; intro w2 own2 grow2)
        go_roundw
        case rel => exact ⟨k + 1, N + 1, _, by omega, by go_num, by omega, by rw [htk.out]; exact HS1.out.put x.id own2, HN.out, haf1.grown grow2 (fun j hj => by cases hj; exact hB)⟩
        case measure => simp [intOf]; omega
      · rw [hin] at l1
        have HR := Lib.hid (show addB ss (xs.map Lx.id) = false by rw [HEQ.out, hdr.out, addB, hin]; rfl)
        clear hin
        go_wp2
        go_ret
        exact ⟨by rw [HR.out]; rfl, haf1⟩
    · obtain rfl : k = n := by omega
      have HR := Lib.hid (show addB ss (xs.map Lx.id) = true by rw [HEQ.out, List.drop_of_length_le (by rw [hlen.out]; exact Nat.le_refl _)]; rfl)
      go_wp2
      go_ret
      exact ⟨by rw [HR.out]; rfl, haf⟩
end Go.Proofs.YtfoeghabnbjbgaaDoor
