/-
  The reference's Homonyms, in the program's order; its Same of two slices of strings that hold the same. Condition: the slice holds the lexemes, at most 2^32 of them.
-/
import Derived.Test.YthoppaemlandaaaDoorLexRefSel
import Derived.Test.YthoppaemlandaaaDoorLexHomW
namespace Go.Proofs.YthoppaemlandaaaDoor
open Go.RowKit
open FeatPlain

def stemIn (pre : List Lx) (s : ByteArray) : Bool := pre.any fun y => decide (y.stem = s)
theorem stemIn_snoc (pre : List Lx) (y : Lx) (s : ByteArray) : stemIn (pre ++ [y]) s = (stemIn pre s || decide (y.stem = s)) := by simp [stemIn]
/-- The groups of the rest l, those of the stems in pre left out. -/
def homR (xs pre : List Lx) : List Lx → List (List ByteArray)
  | [] => []
  | x :: l => if decide ((grp xs x.stem).length < 2) || stemIn pre x.stem then homR xs (pre ++ [x]) l else (grp xs x.stem).map Lx.id :: homR xs (pre ++ [x]) l
theorem homR_homG (xs : List Lx) : ∀ (l pre : List Lx) (gone : List ByteArray), (∀ s, inB gone s = (stemIn pre s && !decide ((grp xs s).length < 2))) → homR xs pre l = homG xs l gone
  | [], _, _, _ => rfl
  | x :: l, pre, gone, h => by
    have hx := h x.stem
    rw [homR, homG]
    by_cases q : (grp xs x.stem).length < 2
    · rw [if_pos (by simp [q]), if_pos (by simp [q])]
      refine homR_homG xs l _ _ (fun s => ?_)
      rw [h s, stemIn_snoc]
      by_cases e : x.stem = s
      · subst e; simp [q]
      · simp [e]
    · cases hp : stemIn pre x.stem
      · rw [if_neg (by simp [q]), if_neg (by rw [hx, hp]; simp [q])]
        congr 1
        refine homR_homG xs l _ _ (fun s => ?_)
        rw [inB_snoc, h s, stemIn_snoc]
        by_cases e : x.stem = s
        · subst e; simp [q]
        · simp [e]
      · rw [if_pos (by simp), if_pos (by rw [hx, hp]; simp [q])]
        refine homR_homG xs l _ _ (fun s => ?_)
        rw [h s, stemIn_snoc]
        by_cases e : x.stem = s
        · subst e; simp [hp]
        · simp [e]
theorem homR_eq (xs : List Lx) : homR xs [] xs = homG xs xs [] := homR_homG xs xs [] [] (fun s => by simp [inB, stemIn])
theorem Rss.made {w : World} {base : Nat} (hb : base ≤ w.heap.size) : Rss (w.alloc (.cells #[] 41)) base (.slice (some ⟨w.heap.size, 0, none⟩) 0 0) [] :=
  ⟨[], rfl, row_base (World.ownsRow_lit (base := w.heap.size) (e := 41) (size := 1) w #[] 0 (Nat.le_refl _) (by unfold maxLen; omega) rfl) hb, fun x h => by cases h⟩
theorem Ls.first {w : World} {A : Option Addr} {n c k : Nat} {xs : List Lx} (h : Ls w A n c xs) (hk : k ≤ n) : Ls w A k c (xs.take k) := by
  have hl := h.len
  have hle := h.le
  have hm := h.max
  refine ⟨by rw [List.length_take]; omega, by omega, by omega, h.cmax, h.nl, fun i x hi => ?_, fun x hx => h.lw x (List.mem_of_mem_take hx)⟩
  rw [List.getElem?_take] at hi
  split at hi
  · exact h.cells i x hi
  · cases hi

theorem sameS_any (A : Option Addr) (n c : Nat) (ss : List ByteArray) (B : Option Addr) (m d : Nat) (w : World) (ha : Ss w A n c ss) (hb : Ss w B m d ss) :
    Calls Tryd.prog 34 #[.slice A n c, .slice B m d] w (BoolPost w true) := by
  obtain rfl : n = m := by rw [← ha.len]; exact hb.len
  have hn := ha.max
  have hnc := ha.le
  have hnd := hb.le
  go_enter Tryd.func34, Tryd.ntmps34
  go_wp2
  go_loopw [13] (fun i wr => ∃ k, k ≤ n ∧ i = .int .i64 (k : Nat) ∧ Aft w wr) (fun i _ => n - (intOf i).toNat)
  case atStart => exact ⟨0, Nat.zero_le _, rfl, Aft.refl _⟩
  case round =>
    obtain ⟨k, hk, rfl, haf⟩ := hrel
    by_cases hlt : k < n
    · obtain ⟨b, off, s, rfl, hf, h1⟩ := ha.at_ hlt
      obtain ⟨b2, off2, s2, rfl, hf2, h2⟩ := hb.at_ hlt
      obtain rfl : s = s2 := by rw [hf] at hf2; exact Option.some.inj hf2
      have c1 := haf.cell h1
      have c2 := haf.cell h2
      clear hf hf2 h1 h2
      go_wp2
      go_quiet (fail)
      go_wp2
      go_roundw
      case rel => exact ⟨k + 1, by omega, by go_num, haf.drewN _⟩
      case measure => simp [intOf]; omega
    · obtain rfl : k = n := by omega
      go_wp2
      go_ret
      exact ⟨rfl, haf⟩

set_option maxRecDepth 100000 in
set_option maxHeartbeats 3200000 in
theorem refHom_any (A : Option Addr) (n c : Nat) (xs : List Lx) (w : World) (ha : Ls w A n c xs) (hsz : n ≤ 4294967296) :
    Calls Tryd.prog 33 #[.slice A n c] w (HomPost w (homR xs [] xs)) := by
  have hn := ha.max
  have hnc := ha.le
  have hcm := ha.cmax
  have hlen := Lib.hid ha.len
  have hxl : xs.length ≤ 4294967296 := by rw [ha.len]; exact hsz
  obtain ⟨i0, hi, hz0, hz1, hz2⟩ := info_parts Tryd.infoStr
  obtain ⟨j0, hj, hy0, hy1, hy2⟩ := info_parts Tryd.infoSs
  go_enter Tryd.func33, Tryd.ntmps33
  go_wp2
  go_loopw [3, 16] (fun v i wr => ∃ k L, k ≤ n ∧ i = .int .i64 (k : Nat) ∧ Rss wr w.heap.size v L ∧ homR xs [] xs = L ++ homR xs (xs.take k) (xs.drop k) ∧ L.length ≤ k ∧ Aft w wr) (fun _ i _ => n - (intOf i).toNat)
  case atStart => exact ⟨0, [], Nat.zero_le _, rfl, Rss.made (Nat.le_refl _), by simp, Nat.le_refl _, (Aft.refl _).alloc _⟩
  case round =>
    obtain ⟨k, L, hk, rfl, hrs, heq, hLk, haf⟩ := hrel
    have HRS := Lib.hid hrs
    have HEQ := Lib.hid heq
    clear hrs heq
    by_cases hlt : k < n
    · obtain ⟨b, off, x, rfl, hx, h5, hlw⟩ := ha.at_ hlt
      obtain ⟨c0, c1, c2, c3, c4⟩ := h5.aft haf
      have HX := Lib.hid hx
      have hdr := drop_of_get hx
      rw [hdr] at HEQ
      clear hx h5 hlw hdr
      obtain ⟨Wo, rfl⟩ : ∃ Wo, Wo = wr := ⟨wr, rfl⟩
      have hA0 : Aft Wo (Wo.alloc (.cells #[.string x.id, .string x.cat, .string x.stem, .string x.par, .slice x.fa x.fn x.fc] 27)) := (Aft.refl Wo).alloc _
      have hbx := Lib.hid (BoxL.new Wo x)
      have HST := Lib.hid (refStem_any (some ⟨b, off, none⟩) n c xs x.stem (Wo.alloc (.cells #[.string x.id, .string x.cat, .string x.stem, .string x.par, .slice x.fa x.fn x.fc] 27)) (ha.aft (haf.trans hA0)) hsz)
      have hkc : k ≤ c := by omega
      go_wp2_with fail
      refine HST.out.mono ?_
      rintro e W1 ⟨⟨gB, m, gd, rfl, hg⟩, A1⟩
      clear HST
      have hgl := grp_le xs x.stem
      have hml : (grp xs x.stem).length = m := hg.len
      have hmd := hg.le
      have hdm := hg.cmax
      rw [hml] at hgl
      have HML := Lib.hid hml
      have HG := Lib.hid (show Ls W1 gB m gd (grp xs x.stem) from hg)
      have AW1 := haf.trans (hA0.trans A1)
      have HR1 := Lib.hid (HRS.out.aft (hA0.trans A1))
      have HB1 := Lib.hid (hbx.out.aft A1)
      have HTK := Lib.hid ((ha.aft AW1).first (show k ≤ n by omega))
      clear hg hml hbx
      go_wp2
      go_loopw [7, 29] (fun v i wr => ∃ j, j ≤ k ∧ i = .int .i64 (j : Nat) ∧ v = .bool (!stemIn (xs.take j) x.stem) ∧ Aft W1 wr) (fun _ i _ => k - (intOf i).toNat)
      case atStart => exact ⟨0, Nat.zero_le _, rfl, rfl, Aft.refl _⟩
      case round =>
        obtain ⟨j, hjk, rfl, rfl, hafj⟩ := hrel
        by_cases hltj : j < k
        · obtain ⟨b', off', z, e0, hz, h5, hlw⟩ := HTK.out.at_ hltj
          cases e0
          obtain ⟨c0, c1, c2, c3, c4⟩ := h5.aft hafj
          have hz' : xs[j]? = some z := by rw [List.getElem?_take, if_pos hltj] at hz; exact hz
          have hb2 := (HB1.out.aft hafj).aft ((Aft.refl wr).alloc (.cells #[.string z.id, .string z.cat, .string z.stem, .string z.par, .slice z.fa z.fn z.fc] 27))
          obtain ⟨d0, d1, d2, d3, d4⟩ := hb2.five
          simp only [Nat.zero_add] at d1 d2 d3 d4
          have hq := toList_beq z.stem x.stem
          have hst : stemIn (xs.take (j + 1)) x.stem = (stemIn (xs.take j) x.stem || decide (z.stem = x.stem)) := by rw [take_next hz', stemIn_snoc]
          have HST := Lib.hid hst
          clear hz hz' h5 hlw hb2 hst
          cases hsi : stemIn (xs.take j) x.stem
          · rw [hsi] at HST
            by_cases hh : z.stem = x.stem
            · rw [decide_eq_true hh] at hq HST
              clear hh
              go_wp2
              go_roundw
              case rel => exact ⟨j + 1, by omega, by go_num, by rw [HST.out]; rfl, hafj.alloc _⟩
              case measure => simp [intOf]; omega
            · rw [decide_eq_false hh] at hq HST
              clear hh
              go_wp2
              go_roundw
              case rel => exact ⟨j + 1, by omega, by go_num, by rw [HST.out]; rfl, hafj.alloc _⟩
              case measure => simp [intOf]; omega
          · rw [hsi] at HST
            go_wp2
            go_roundw
            case rel => exact ⟨j + 1, by omega, by go_num, by rw [HST.out]; rfl, hafj.alloc _⟩
            case measure => simp [intOf]; omega
        · obtain rfl : j = k := by omega
          have AK := AW1.trans hafj
          have HR2 := Lib.hid (HR1.out.aft hafj)
          have HG2 := Lib.hid (HG.out.aft hafj)
          clear HTK
          cases hcond : (decide ((grp xs x.stem).length < 2) || stemIn (xs.take j) x.stem)
          · have hc1 : ¬ m < 2 ∧ stemIn (xs.take j) x.stem = false := by
              rw [Bool.or_eq_false_iff, decide_eq_false_iff_not, HML.out] at hcond
              exact hcond
            have hm2 : ¬ (m : Int) < 2 := by have := hc1.1; omega
            have hm2n := hc1.1
            have HN := Lib.hid (show homR xs [] xs = (L ++ [(grp xs x.stem).map Lx.id]) ++ homR xs (xs.take (j + 1)) (xs.drop (j + 1)) by rw [HEQ.out, homR, if_neg (by rw [hcond]; simp), take_next HX.out]; simp)
            have hsi := hc1.2
            rw [hsi]
            clear hcond hc1 hsi
            obtain ⟨Wk, rfl⟩ : ∃ Wk, Wk = wr := ⟨wr, rfl⟩
            have hA3 : Aft Wk (Wk.alloc (.cells #[] 9)) := (Aft.refl _).alloc _
            have row0 : (Wk.alloc (.cells #[] 9)).ownsRow Wk.heap.size 9 1 (.slice (some ⟨Wk.heap.size, 0, none⟩) 0 0) 0 [] := World.ownsRow_lit Wk #[] 0 (Nat.le_refl _) (by unfold maxLen; omega) rfl
            go_wp2
            go_loopw [10, 52] (fun v i wr => ∃ t, t ≤ m ∧ i = .int .i64 (t : Nat) ∧ wr.ownsRow Wk.heap.size 9 1 v t ((((grp xs x.stem).take t).map Lx.id).map Value.string) ∧ Aft Wk wr) (fun _ i _ => m - (intOf i).toNat)
            case atStart => exact ⟨0, Nat.zero_le _, rfl, by simpa using row0, hA3⟩
            case round =>
              obtain ⟨t, htm, rfl, hrow, haft⟩ := hrel
              have HROW := Lib.hid hrow
              have hsw := haft.size
              clear hrow row0 hA3
              by_cases hltt : t < m
              · obtain ⟨b', off', z, rfl, hz, h5, hlw⟩ := HG2.out.at_ hltt
                obtain ⟨c0, c1, c2, c3, c4⟩ := h5.aft haft
                have HZ := Lib.hid hz
                have O1 := Lib.hid (own_aft HROW.out ((Aft.refl wr).alloc (.cells #[.string z.id, .string z.cat, .string z.stem, .string z.par, .slice z.fa z.fn z.fc] 27)))
                clear hz h5 hlw
                go_wp2_with (at_builtin; refine wpList_append_own _ rfl _ _ 41 rfl Wk.heap.size 9 i0 _ 1 16 Tryd.underlying41 hi hz0 hz1 hz2 rfl (by decide) _ t _ rfl (O1.out.alloc _) ⟨wr.heap.size + 1, 0, none⟩ 1 1 [.string z.id] rfl rfl (cell_one_at _ _ _ (by simp)) (by simp [Value.oneCell']) (by unfold maxLen; omega) (by omega) (by simp; omega) ?_; intro v' w3 own3 grow3 _)
                go_roundw
                case rel =>
                  refine ⟨t + 1, by omega, by go_num, ?_, ((haft.alloc _).alloc _).grown grow3 (row_ltL O1.out)⟩
                  rw [take_next HZ.out, List.map_append, List.map_append]
                  exact own3
                case measure => simp [intOf]; omega
              · obtain rfl : t = m := by omega
                have hfull : (grp xs x.stem).take t = grp xs x.stem := List.take_of_length_le (by rw [HML.out]; exact Nat.le_refl _)
                rw [hfull] at HROW
                clear hfull
                obtain ⟨ia, ic, rfl⟩ : ∃ a c, u10 = .slice a t c := by
                  rcases HROW.out.2 with ⟨_, h0⟩ | ⟨g, cap, cur, e, _⟩
                  · omega
                  · exact ⟨_, _, e⟩
                have HR3 := Lib.hid (HR2.out.aft haft)
                have AK3 := AK.trans haft
                have hs3 := AK3.size
                obtain ⟨vs, hvs⟩ := HR3.out.row
                have HVS := Lib.hid hvs
                clear hvs
                obtain ⟨nL, hnL⟩ : ∃ nL, nL = L.length := ⟨_, rfl⟩
                rw [← hnL] at hLk HVS
                have HNL := Lib.hid hnL
                clear hnL
                go_wp2_with (at_builtin; refine wpList_append_own _ rfl _ _ 47 rfl w.heap.size 41 j0 _ 1 24 Tryd.underlying47 hj hy0 hy1 hy2 rfl (by decide) _ nL _ rfl (HVS.out.alloc _) ⟨wr.heap.size, 0, none⟩ 1 1 [.slice ia t ic] rfl rfl (cell_one_at _ _ _ rfl) (by simp [Value.oneCell']) (by unfold maxLen; omega) (by omega) (by simp; omega) ?_; intro v' w3 own3 grow3 _)
                go_roundw
                case rel =>
                  refine ⟨j + 1, L ++ [(grp xs x.stem).map Lx.id], by omega, by go_num, Rss.push (HR3.out.aft ((Aft.refl wr).alloc (.cells #[.slice ia t ic] 41))) (by rw [← HNL.out]; exact own_aft HVS.out ((Aft.refl wr).alloc (.cells #[.slice ia t ic] 41))) (own_aft HROW.out ((Aft.refl wr).alloc (.cells #[.slice ia t ic] 41))) (by rw [List.length_map]; exact HML.out) (by rw [← HNL.out]; exact own3) grow3, HN.out, ?_, (AK3.trans ((Aft.refl wr).alloc (.cells #[.slice ia t ic] 41))).grown grow3 (row_ltL HVS.out)⟩
                  rw [List.length_append, ← HNL.out]
                  simp
                  omega
                case measure => simp [intOf]; omega
          · have HN := Lib.hid (show homR xs [] xs = L ++ homR xs (xs.take (j + 1)) (xs.drop (j + 1)) by rw [HEQ.out, homR, if_pos hcond, take_next HX.out])
            rw [Bool.or_eq_true, decide_eq_true_eq, HML.out] at hcond
            by_cases hm2n : m < 2
            · have hm2 : (m : Int) < 2 := by omega
              clear hcond
              go_wp2
              go_roundw
              case rel => exact ⟨j + 1, L, by omega, by go_num, HR2.out, HN.out, by omega, AK⟩
              case measure => simp [intOf]; omega
            · have hm2 : ¬ (m : Int) < 2 := by omega
              have hsi : stemIn (xs.take j) x.stem = true := by
                rcases hcond with h | h
                · exact absurd h hm2n
                · exact h
              rw [hsi]
              clear hcond hsi
              go_wp2
              go_roundw
              case rel => exact ⟨j + 1, L, by omega, by go_num, HR2.out, HN.out, by omega, AK⟩
              case measure => simp [intOf]; omega
    · obtain rfl : k = n := by omega
      have HN := Lib.hid (show homR xs [] xs = L by rw [HEQ.out, List.drop_of_length_le (by rw [hlen.out]; exact Nat.le_refl _)]; simp [homR])
      obtain ⟨a, c', rfl, hss⟩ := HRS.out.sss (fun l hl => by have := homG_small xs xs [] l (by rw [← homR_eq, HN.out]; exact hl); omega)
      go_wp2
      go_ret
      exact ⟨⟨_, _, _, rfl, by rw [HN.out]; exact hss⟩, haf⟩
end Go.Proofs.YthoppaemlandaaaDoor
