/-
  collect, with a row of the call's own; Vocabulary of a valid system. Conditions: the system lies where it says, its strings are no longer than a string can be; the tables of unicode/utf8 lie as their texts say.
-/
import Derived.Test.YtdehghmpfkhljaaDoorNumVocS
import Derived.Test.YtdehghmpfkhljaaDoorNumTok
import Derived.Test.YtdehghmpfkhljaaDoorNumMul
namespace Go.Proofs.YtdehghmpfkhljaaDoor.Voc
open Go.RowKit
open NumPlain

set_option maxRecDepth 100000 in
set_option maxHeartbeats 1600000 in
theorem collect_own (A : Option Addr) (n c : Nat) (os : List Lk) (w : World) (ha : Lls w A n c os) (hb : (lists os).flatten.length ≤ 1000) :
    Calls Tryd.prog 42 #[.slice A n c] w (fun e w' => (∃ v, e = .returned v ∧ w'.ownsRow w.heap.size 9 1 v (col (lists os)).length ((col (lists os)).map sV)) ∧ Aft w w') := by
  have hac := ha.row.le
  have hcm := ha.row.cmax
  have HL := Lib.hid ha.row.len
  have HBd := Lib.hid hb
  have HE := Lib.hid ha.each
  have HRow := Lib.hid ha.row
  obtain ⟨i0, hi, hz0, hz1, hz2⟩ := info_parts Tryd.infoS
  clear ha hb
  go_enter Tryd.func42, Tryd.ntmps42
  go_wp2
  go_loopw [3, 10] (fun v i wr => ∃ (k : Nat) (L : List BA), k ≤ n ∧ i = .int .i64 (k : Nat) ∧ L = col ((lists os).take k) ∧ wr.ownsRow w.heap.size 9 1 v L.length (L.map sV) ∧ Aft w wr) (fun _ i _ => n - (intOf i).toNat)
  case atStart => exact ⟨0, [], Nat.zero_le _, rfl, by simp [col], World.ownsRow_nil _ _ _ _, Aft.refl _⟩
  case round =>
    obtain ⟨k, L, hk, rfl, hL, own, haf⟩ := hrel
    have HLL := Lib.hid hL
    have HO := Lib.hid own
    clear hL own
    by_cases hlt : k < n
    · obtain ⟨b, off, x, rfl, hx, g1⟩ := HRow.out.at_ hlt
      have c1 := haf.cell g1
      dsimp only [Lk.enc] at c1
      have hxr := HE.out x (List.mem_of_getElem? hx)
      have hxn := hxr.le
      have hxc := hxr.cmax
      have hxl := hxr.len
      have HX := Lib.hid hxr
      have hki : (k : Int) < (n : Int) := by omega
      have hlx : (lists os)[k]? = some x.l := by unfold lists; rw [List.getElem?_map, hx]; rfl
      have hbd := col_len_take (lists os) k
      rw [show (lists os).getD k [] = x.l by simp [List.getD, hlx], ← HLL.out, hxl] at hbd
      have hbd2 : L.length + x.n ≤ 1000 := Nat.le_trans hbd HBd.out
      have HT := Lib.hid (show col ((lists os).take (k + 1)) = L ++ x.l.filter neB by rw [take_next hlx, col_snoc, HLL.out])
      have HXL := Lib.hid hxl
      clear hx g1 hxr hlx hbd hxl
      go_wp2
      obtain ⟨wo, hwo⟩ : ∃ wo : World, wo = wr := ⟨_, rfl⟩
      rw [← hwo] at haf HO c1 ⊢
      clear hwo
      go_loopw [3, 16] (fun v j w2 => ∃ (q : Nat) (M : List BA), q ≤ x.n ∧ j = .int .i64 (q : Nat) ∧ M = L ++ (x.l.take q).filter neB ∧ w2.ownsRow w.heap.size 9 1 v M.length (M.map sV) ∧ Aft w w2) (fun _ j _ => x.n - (intOf j).toNat)
      case atStart => exact ⟨0, L, Nat.zero_le _, rfl, by simp, HO.out, haf⟩
      case round =>
        obtain ⟨q, M, hq, rfl, hM, own2, haf2⟩ := hrel
        have hM1 : M.length ≤ 1000 := by rw [hM, List.length_append]; have h := List.length_filter_le neB (x.l.take q); have h2 : (x.l.take q).length ≤ x.n := by simp; omega
                                         omega
        have HM := Lib.hid hM
        have HO2 := Lib.hid own2
        clear hM own2
        by_cases hql : q < x.n
        · obtain ⟨b2, off2, s, hXA, hs, g2⟩ := HX.out.at_ hql
          rw [hXA] at *
          have c2 := haf2.cell g2
          dsimp only [sV] at c2
          have hqi : (q : Int) < (x.n : Int) := by omega
          have hem := empty_iff s
          have HS := Lib.hid (take_next hs)
          clear hs g2 hXA
          by_cases he : s.size = 0
          · rw [decide_eq_true he] at hem
            have HN := Lib.hid (show neB s = false by unfold neB; rw [decide_eq_true he]; rfl)
            clear he
            go_wp2
            go_roundw
            case rel => exact ⟨q + 1, M, by omega, by go_num, by rw [HM.out, HS.out, List.filter_append, List.filter_cons_of_neg (by rw [HN.out]; decide), List.filter_nil, List.append_nil], HO2.out, haf2⟩
            case measure => simp [intOf]; omega
          · rw [decide_eq_false he] at hem
            have HN := Lib.hid (show neB s = true by unfold neB; rw [decide_eq_false he]; rfl)
            clear he
            have hs2 := haf2.size
            go_wp2_with (at_builtin; refine wpList_append_own _ rfl _ _ 22 rfl w.heap.size 9 i0 _ 1 16 Tryd.underlying22 hi hz0 hz1 hz2 rfl (by decide) _ _ _ rfl (HO2.out.alloc _) ⟨wr.heap.size, 0, none⟩ 1 1 [.string s] rfl rfl (one_val _ _ _ _ rfl) (oneStr s) (by unfold maxLen; omega) (by omega) (by simp; omega) ?_; intro v' w9 own9 grow9 _)
            have hrel : ∀ V, v' = V → ∃ (q_1 : Nat) (M_1 : List BA), q_1 ≤ x.n ∧ Value.int .i64 ((q : Int) + 1) = .int .i64 (q_1 : Nat) ∧ M_1 = L ++ (x.l.take q_1).filter neB ∧ w9.ownsRow w.heap.size 9 1 V M_1.length (M_1.map sV) ∧ Aft w w9 := by
              rintro V rfl
              refine ⟨q + 1, M ++ [s], by omega, by simp, by rw [HM.out, HS.out, List.filter_append, List.filter_cons_of_pos HN.out, List.filter_nil, List.append_assoc], ?_, (haf2.alloc _).grown grow9 (fun k e => (HO2.out.lt k e).1)⟩
              rw [List.length_append, List.map_append]
              exact own9
            have HRL := Lib.hid hrel
            clear hrel
            obtain ⟨g', cap', rfl⟩ := row_succ own9
            clear own9 grow9
            go_wp2
            go_roundw
            case rel => exact HRL.out _ rfl
            case measure => simp [intOf]; omega
        · obtain rfl : q = x.n := by omega
          have HF := Lib.hid (show M = L ++ x.l.filter neB by rw [HM.out, List.take_of_length_le (by rw [HXL.out]; exact Nat.le_refl _)])
          clear hql
          go_wp2
          go_roundw
          case rel => exact ⟨k + 1, M, by omega, by go_num, by rw [HT.out, HF.out], HO2.out, haf2⟩
          case measure => simp [intOf]; omega
    · obtain rfl : k = n := by omega
      have hF : col (lists os) = L := by rw [HLL.out, List.take_of_length_le (by unfold lists; rw [List.length_map, HL.out]; exact Nat.le_refl _)]
      have HF := Lib.hid hF
      clear hF
      go_wp2
      go_ret
      exact ⟨⟨_, rfl, by rw [HF.out]; exact HO.out⟩, haf⟩

theorem three_at {w : World} {X Y Z : Option Addr} {n c m d u v H : Nat} {l k j : List BA} (hH : w.heap.size = H) (h : Rw sV w X n c l) (g : Rw sV w Y m d k) (f : Rw sV w Z u v j) (t : TypeId) : Lls (w.alloc (.cells #[.slice X n c, .slice Y m d, .slice Z u v] t)) (some ⟨H, 0, none⟩) 3 3 [⟨X, n, c, l⟩, ⟨Y, m, d, k⟩, ⟨Z, u, v, j⟩] := by
  subst hH
  exact three_lls h g f t
theorem lists3 (a b d : Lk) : col (lists [a, b, d]) = col [a.l, b.l, d.l] := rfl
set_option maxRecDepth 100000 in
set_option maxHeartbeats 1600000 in
theorem voc_any (x : Nm) (hv : validB x = true) (w : World) (hT : Tabs w) (hw : Nw w x) (hz : Sz x) :
    Calls Tryd.prog 22 #[nV x] w (SlPost w (vocS x)) := by
  have AL : Aft w (w.alloc (.cells (nC x) 24)) := (Aft.refl w).alloc _
  obtain ⟨c0, c1, c2, c3, c4, c5, c6, c7⟩ := Bx.new w x 24
  have h1 := valid_any x _ (tabs_aft hT AL) (hw.aft AL) hz
  rw [hv] at h1
  have H1 := Lib.hid h1
  have hx := ok_of hv
  have hlen : x.ds.length ≤ 20 ∧ x.ps.length = 3 := by
    have := hw.rd.len; have := hw.rp.len; have := hx.dn; have := hx.pn; have := hx.base
    omega
  have HLN := Lib.hid hlen
  have HW := Lib.hid hw
  have hcl : (vocL x).length ≤ 1000 := by
    unfold vocL
    refine Nat.le_trans (col_len _) ?_
    simp; omega
  have HCL := Lib.hid hcl
  clear hT hw h1 hv hx hlen hcl
  go_enter Tryd.func22, Tryd.ntmps22
  go_wp2_with fail
  refine H1.out.mono ?_
  rintro e w1 ⟨rfl, N1⟩
  have A1 := AL.trans N1
  have d1 := N1.cell c1
  have d2 := N1.cell c2
  have d4 := N1.cell c4
  have d6 := N1.cell c6
  have A2 : Aft w1 (w1.alloc (.cells #[.string x.jo, .string x.le] 9)) := (Aft.refl w1).alloc _
  have HRW := Lib.hid (show Rw sV (w1.alloc (.cells #[.string x.jo, .string x.le] 9)) (some ⟨w1.heap.size, 0, none⟩) 2 2 [x.jo, x.le] from lit_rw (enc := sV) w1 9 [x.jo, x.le] (by simp))
  have HA1 := Lib.hid A1
  have HA2 := Lib.hid A2
  clear H1 A1 A2 N1 c0 c1 c2 c3 c4 c5 c6 c7 AL
  go_wp2_with fail
  have HC := Lib.hid (collect_own (some ⟨w1.heap.size + 1, 0, none⟩) 3 3 [⟨x.da, x.dn, x.dc, x.ds⟩, ⟨x.pa, x.pn, x.pc, x.ps⟩, ⟨some ⟨w1.heap.size, 0, none⟩, 2, 2, [x.jo, x.le]⟩] _ (three_at (H := w1.heap.size + 1) (by simp) ((HW.out.aft HA1.out).rd.aft HA2.out) ((HW.out.aft HA1.out).rp.aft HA2.out) HRW.out 22) (by have := HLN.out; simp [lists]; omega))
  refine HC.out.mono ?_
  rintro e w3 ⟨⟨v, rfl, own⟩, N3⟩
  rw [lists3] at own
  have HO := Lib.hid (show w3.ownsRow _ 9 1 v (vocL x).length ((vocL x).map sV) from own)
  have HN3 := Lib.hid N3
  have hbs : w.heap.size ≤ ((w1.alloc (.cells #[.string x.jo, .string x.le] 9)).alloc (.cells #[.slice x.da x.dn x.dc, .slice x.pa x.pn x.pc, .slice (some ⟨w1.heap.size, 0, none⟩) 2 2] 22)).heap.size := by
    have := HA1.out.size
    simp
    omega
  have HBS := Lib.hid hbs
  have HA3 := Lib.hid ((HA1.out.trans HA2.out).trans (((Aft.refl _).alloc _).trans N3))
  clear own N3 hbs
  go_wp2_with fail
  refine (sortS_any v (vocL x) _ w3 HO.out (by have := HCL.out; omega)).mono ?_
  rintro e w4 ⟨rfl, own4, g4⟩
  have A4 := Lib.hid (HA3.out.grown g4 (fun k hk => Nat.le_trans HBS.out (HO.out.lt k hk).1))
  have HO4 := Lib.hid (show w4.ownsRow _ 9 1 v (sortedS (vocL x)).length ((sortedS (vocL x)).map sV) by rw [sortedS_len]; exact own4)
  clear own4 g4
  go_wp2_with fail
  refine (compactS_any v (sortedS (vocL x)) _ w4 HO4.out (by rw [sortedS_len]; have := HCL.out; omega)).mono ?_
  rintro e w5 ⟨⟨X, k, c, rfl, hr⟩, g5⟩
  have HR := Lib.hid hr
  have A5 := Lib.hid (A4.out.grown g5 (fun k hk => Nat.le_trans HBS.out (HO4.out.lt k hk).1))
  clear hr g5
  go_wp2
  go_ret
  exact ⟨⟨X, k, c, rfl, HR.out⟩, A5.out⟩
end Go.Proofs.YtdehghmpfkhljaaDoor.Voc
