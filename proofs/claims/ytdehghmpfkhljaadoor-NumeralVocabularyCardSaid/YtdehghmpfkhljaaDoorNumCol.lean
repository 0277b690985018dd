/-
  collect returns the words of all lists that are not empty. Condition: the slices hold the lists, which have at most 1000 words together.
-/
import Derived.Test.YtdehghmpfkhljaaDoorNumBase
namespace Go.Proofs.YtdehghmpfkhljaaDoor
open Go.RowKit
open NumPlain

/-- A list of strings, and where it lies. -/
structure Lk where
  a : Option Addr
  n : Nat
  c : Nat
  l : List BA
def Lk.enc (x : Lk) : Value := .slice x.a x.n x.c
def lists (os : List Lk) : List (List BA) := os.map Lk.l
/-- THE SLICE '.slice A n c' HOLDS the lists os. -/
structure Lls (w : World) (A : Option Addr) (n c : Nat) (os : List Lk) : Prop where
  row : Rw Lk.enc w A n c os
  each : ∀ x ∈ os, Rw sV w x.a x.n x.c x.l
theorem Lls.aft {w w' : World} {A : Option Addr} {n c : Nat} {os : List Lk} (h : Lls w A n c os) (k : Aft w w') : Lls w' A n c os := ⟨h.row.aft k, fun x hx => (h.each x hx).aft k⟩

theorem Tryd.infoS : (Tryd.prog.info? 9).map (fun i => (i.zero, i.size, i.bytes)) = some (some (.string ⟨#[]⟩), 1, 16) := by kernel_rfl
theorem row_aft {wr w1 : World} {base : Nat} {e : TypeId} {size : Nat} {v : Value} {n : Nat} {l : List Value} (h : wr.ownsRow base e size v n l) (k : Aft wr w1) : w1.ownsRow base e size v n l := by
  refine h.kept (row := none) ⟨k.os, k.tape, k.output, k.size, fun j hj _ => k.block j hj⟩ ?_
  cases hv : v.ownBlock
  · exact .inl rfl
  · exact .inr (by simp)
theorem row_succ {w : World} {base : Nat} {e : TypeId} {v : Value} {n : Nat} {l : List Value} (h : w.ownsRow base e 1 v (n + 1) l) : ∃ g cap, v = .slice (some ⟨g, 0, none⟩) (n + 1) cap := by
  rcases h.2 with ⟨_, h0⟩ | ⟨g, cap, cur, rfl, _⟩
  · omega
  · exact ⟨g, cap, rfl⟩
theorem oneStr (s : BA) : ∀ u ∈ [Value.string s], u.oneCell' = true := by intro u hu; simp at hu; subst hu; rfl
theorem len_filter (l : List BA) (k : Nat) : ((l.take k).filter neB).length ≤ l.length := by
  have h1 := List.length_filter_le neB (l.take k)
  have h2 : (l.take k).length ≤ l.length := by simp; omega
  omega
theorem col_len_take (ls : List (List BA)) : ∀ k, (col (ls.take k)).length + ((ls.getD k []).length) ≤ ls.flatten.length := by
  induction ls with
  | nil => intro k; simp [col]
  | cons l ls ih =>
    intro k
    cases k with
    | zero => simp [col]
    | succ k =>
      have h := ih k
      rw [List.take_succ_cons, col_cons, List.length_append, List.flatten_cons, List.length_append]
      have := List.length_filter_le neB l
      simp only [List.getD_cons_succ]
      omega
theorem neq_empty (s : BA) : (!s.toList.isEmpty) = neB s := by rw [empty_iff]; rfl

set_option maxRecDepth 100000 in
set_option maxHeartbeats 1600000 in
theorem collect_any (A : Option Addr) (n c : Nat) (os : List Lk) (w : World) (ha : Lls w A n c os) (hb : (lists os).flatten.length ≤ 1000) :
    Calls Tryd.prog 42 #[.slice A n c] w (SlPost w (col (lists os))) := by
  have hac := ha.row.le
  have hcm := ha.row.cmax
  have HL := Lib.hid ha.row.len
  have HBd := Lib.hid hb
  have HE := Lib.hid ha.each
  have HRow := Lib.hid ha.row
  obtain ⟨i0, hi, hz0, hz1, hz2⟩ := info_parts Tryd.infoS
  clear ha hb
  go_enter Tryd.func42, Tryd.ntmps42
  go_wp2
  go_loopw [3, 10] (fun v i wr => ∃ (k : Nat) (L : List BA), k ≤ n ∧ i = .int .i64 (k : Nat) ∧ L = col ((lists os).take k) ∧ wr.ownsRow w.heap.size 9 1 v L.length (L.map sV) ∧ Aft w wr) (fun _ i _ => n - (intOf i).toNat)
  case atStart => exact ⟨0, [], Nat.zero_le _, rfl, by simp [col], World.ownsRow_nil _ _ _ _, Aft.refl _⟩
  case round =>
    obtain ⟨k, L, hk, rfl, hL, own, haf⟩ := hrel
    have HLL := Lib.hid hL
    have HO := Lib.hid own
    clear hL own
    by_cases hlt : k < n
    · obtain ⟨b, off, x, rfl, hx, g1⟩ := HRow.out.at_ hlt
      have c1 := haf.cell g1
      dsimp only [Lk.enc] at c1
      have hxr := HE.out x (List.mem_of_getElem? hx)
      have hxn := hxr.le
      have hxc := hxr.cmax
      have hxl := hxr.len
      have HX := Lib.hid hxr
      have hki : (k : Int) < (n : Int) := by omega
      have hlx : (lists os)[k]? = some x.l := by unfold lists; rw [List.getElem?_map, hx]; rfl
      have hbd := col_len_take (lists os) k
      rw [show (lists os).getD k [] = x.l by simp [List.getD, hlx], ← HLL.out, hxl] at hbd
      have hbd2 : L.length + x.n ≤ 1000 := Nat.le_trans hbd HBd.out
      have HT := Lib.hid (show col ((lists os).take (k + 1)) = L ++ x.l.filter neB by rw [take_next hlx, col_snoc, HLL.out])
      have HXL := Lib.hid hxl
      clear hx g1 hxr hlx hbd hxl
      go_wp2
      obtain ⟨wo, hwo⟩ : ∃ wo : World, wo = wr := ⟨_, rfl⟩
      rw [← hwo] at haf HO c1 ⊢
      clear hwo
      go_loopw [3, 16] (fun v j w2 => ∃ (q : Nat) (M : List BA), q ≤ x.n ∧ j = .int .i64 (q : Nat) ∧ M = L ++ (x.l.take q).filter neB ∧ w2.ownsRow w.heap.size 9 1 v M.length (M.map sV) ∧ Aft w w2) (fun _ j _ => x.n - (intOf j).toNat)
      case atStart => exact ⟨0, L, Nat.zero_le _, rfl, by simp, HO.out, haf⟩
      case round =>
        obtain ⟨q, M, hq, rfl, hM, own2, haf2⟩ := hrel
        have hM1 : M.length ≤ 1000 := by rw [hM, List.length_append]; have h := List.length_filter_le neB (x.l.take q); have h2 : (x.l.take q).length ≤ x.n := by simp; omega
                                         omega
        have HM := Lib.hid hM
        have HO2 := Lib.hid own2
        clear hM own2
        by_cases hql : q < x.n
        · obtain ⟨b2, off2, s, hXA, hs, g2⟩ := HX.out.at_ hql
          rw [hXA] at *
          have c2 := haf2.cell g2
          dsimp only [sV] at c2
          have hqi : (q : Int) < (x.n : Int) := by omega
          have hem := empty_iff s
          have HS := Lib.hid (take_next hs)
          clear hs g2 hXA
          by_cases he : s.size = 0
          · rw [decide_eq_true he] at hem
            have HN := Lib.hid (show neB s = false by unfold neB; rw [decide_eq_true he]; rfl)
            clear he
            go_wp2
            go_roundw
            case rel => exact ⟨q + 1, M, by omega, by go_num, by rw [HM.out, HS.out, List.filter_append, List.filter_cons_of_neg (by rw [HN.out]; decide), List.filter_nil, List.append_nil], HO2.out, haf2⟩
            case measure => simp [intOf]; omega
          · rw [decide_eq_false he] at hem
            have HN := Lib.hid (show neB s = true by unfold neB; rw [decide_eq_false he]; rfl)
            clear he
            have hs2 := haf2.size
            go_wp2_with (at_builtin; refine wpList_append_own _ rfl _ _ 22 rfl w.heap.size 9 i0 _ 1 16 Tryd.underlying22 hi hz0 hz1 hz2 rfl (by decide) _ _ _ rfl (HO2.out.alloc _) ⟨wr.heap.size, 0, none⟩ 1 1 [.string s] rfl rfl (one_val _ _ _ _ rfl) (oneStr s) (by unfold maxLen; omega) (by omega) (by simp; omega) ?_; intro v' w9 own9 grow9 _)
            have hrel : ∀ V, v' = V → ∃ (q_1 : Nat) (M_1 : List BA), q_1 ≤ x.n ∧ Value.int .i64 ((q : Int) + 1) = .int .i64 (q_1 : Nat) ∧ M_1 = L ++ (x.l.take q_1).filter neB ∧ w9.ownsRow w.heap.size 9 1 V M_1.length (M_1.map sV) ∧ Aft w w9 := by
              rintro V rfl
              refine ⟨q + 1, M ++ [s], by omega, by simp, by rw [HM.out, HS.out, List.filter_append, List.filter_cons_of_pos HN.out, List.filter_nil, List.append_assoc], ?_, (haf2.alloc _).grown grow9 (fun k e => (HO2.out.lt k e).1)⟩
              rw [List.length_append, List.map_append]
              exact own9
            have HRL := Lib.hid hrel
            clear hrel
            obtain ⟨g', cap', rfl⟩ := row_succ own9
            clear own9 grow9
            go_wp2
            go_roundw
            case rel => exact HRL.out _ rfl
            case measure => simp [intOf]; omega
        · obtain rfl : q = x.n := by omega
          have HF := Lib.hid (show M = L ++ x.l.filter neB by rw [HM.out, List.take_of_length_le (by rw [HXL.out]; exact Nat.le_refl _)])
          clear hql
          go_wp2
          go_roundw
          case rel => exact ⟨k + 1, M, by omega, by go_num, by rw [HT.out, HF.out], HO2.out, haf2⟩
          case measure => simp [intOf]; omega
    · obtain rfl : k = n := by omega
      have hF : col (lists os) = L := by rw [HLL.out, List.take_of_length_le (by unfold lists; rw [List.length_map, HL.out]; exact Nat.le_refl _)]
      have HF := Lib.hid hF
      obtain ⟨X, cx, rfl, hr⟩ := Rw.of_row (enc := sV) HO.out rfl
      have HR := Lib.hid hr
      clear hF hr
      go_wp2
      go_ret
      exact ⟨⟨X, _, cx, rfl, by rw [HF.out]; exact HR.out⟩, haf⟩
end Go.Proofs.YtdehghmpfkhljaaDoor
