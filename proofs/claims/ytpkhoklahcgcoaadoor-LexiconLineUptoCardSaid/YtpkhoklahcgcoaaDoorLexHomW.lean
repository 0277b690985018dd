/-
  Homonyms returns the IDs of the lexemes of each stem that at least two lexemes have, in the order of their first members. Condition: the slice holds the lexemes, at most 2^32 of them.
-/
import Derived.Test.YtpkhoklahcgcoaaDoorLexHom
namespace Go.Proofs.YtpkhoklahcgcoaaDoor
open Go.RowKit Go.Maps Go.WideMaps
open FeatPlain

theorem Tryd.infoSs : (Tryd.prog.info? 42).map (fun i => (i.zero, i.size, i.bytes)) = some (some (.slice none 0 0), 1, 24) := by kernel_rfl
theorem BoxL.grown {w w' : World} {p base n s : Nat} {x : Lx} {e : TypeId} {v : Value} {l : List Value} (h : BoxL w p x) (hr : w.ownsRow base e s v n l) (he : 24 ≠ e) (hg : w.grownBy w' v.ownBlock) : BoxL w' p x := by
  refine (hg.block p (Array.getElem?_eq_some_iff.1 h).1 (fun k => ?_)).trans h
  rcases hr.2 with ⟨rfl, _⟩ | ⟨g, _, _, rfl, _, g', _⟩
  · cases k
  · cases k
    rw [show w.heap[g]? = _ from h] at g'
    cases g'
    exact he rfl
theorem Rss.turned {w w' : World} {base b N : Nat} {v : Value} {L : List (List ByteArray)} {H : Type} {P : Program} {k : TypeId} {R : Value → Option (DataW H × List MemPlace)} {D : DataW H} (h : Rss w base v L) (hm : w.ownsMap P k R b N D) (hg : w.grownBy w' (some b)) : Rss w' base v L := by
  obtain ⟨rs, h1, h2, h3⟩ := h
  exact ⟨rs, h1, row_other h2 hg (fun r hr e => row_notmap h2 hm (by rw [hr]; exact e)), fun x hx => row_other (h3 x hx) hg (fun r hr e => row_notmap (h3 x hx) hm (by rw [hr]; exact e))⟩

def HomPost (w : World) (L : List (List ByteArray)) (e : Ending) (w' : World) : Prop := (∃ A n c, e = .returned (.slice A n c) ∧ Sss w' A n c L) ∧ Aft w w'

theorem homG_small (xs : List Lx) : ∀ (l : List Lx) (gone : List ByteArray), ∀ g ∈ homG xs l gone, g.length ≤ xs.length
  | [], _, g, h => by cases h
  | x :: l, gone, g, h => by
    rw [homG] at h
    split at h
    · exact homG_small xs l gone g h
    · rcases List.mem_cons.1 h with rfl | h
      · rw [List.length_map]; exact grp_le xs x.stem
      · exact homG_small xs l _ g h

set_option maxRecDepth 100000 in
set_option maxHeartbeats 3200000 in
theorem Homonyms_any (A : Option Addr) (n c : Nat) (xs : List Lx) (w : World) (ha : Ls w A n c xs) (hsz : n ≤ 4294967296) :
    Calls Tryd.prog 13 #[.slice A n c] w (HomPost w (homG xs xs [])) := by
  have hn := ha.max
  have hnc := ha.le
  have hcm := ha.cmax
  have hlen := Lib.hid ha.len
  have hxl : xs.length ≤ 4294967296 := by rw [ha.len]; exact hsz
  have HB := Lib.hid (byStem_any A n c xs w ha hsz)
  obtain ⟨i0, hi, hz0, hz1, hz2⟩ := info_parts Tryd.infoStr
  obtain ⟨j0, hj, hy0, hy1, hy2⟩ := info_parts Tryd.infoSs
  go_enter Tryd.func13, Tryd.ntmps13
  go_wp2_with fail
  refine HB.out.mono ?_
  rintro e W1 ⟨⟨D, val, rfl, hG⟩, A1⟩
  have HG := Lib.hid hG.gd
  clear HB hG
  go_wp2
  go_loopw [4, 14] (fun v i wr => ∃ k gone L, k ≤ n ∧ i = .int .i64 (k : Nat) ∧ Gd wr w.heap.size w.heap.size xs.length xs gone val ∧ Rss wr w.heap.size v L ∧ homG xs xs [] = L ++ homG xs (xs.drop k) gone ∧ L.length ≤ k ∧ Aft w wr) (fun _ i _ => n - (intOf i).toNat)
  case atStart => exact ⟨0, [], [], Nat.zero_le _, rfl, HG.out, Rss.nil _ _, rfl, Nat.le_refl _, A1⟩
  case round =>
    obtain ⟨k, gone, L, hk, rfl, hgd, hrs, heq, hLk, haf⟩ := hrel
    have HGD := Lib.hid hgd
    have HRS := Lib.hid hrs
    have HEQ := Lib.hid heq
    clear hgd hrs heq
    by_cases hlt : k < n
    · obtain ⟨b, off, x, rfl, hx, h5, hlw⟩ := ha.at_ hlt
      obtain ⟨c0, c1, c2, c3, c4⟩ := h5.aft haf
      have hws := hlw.wstem
      have HX := Lib.hid hx
      have hdr := drop_of_get hx
      rw [hdr] at HEQ
      clear hx h5 hlw hdr
      obtain ⟨Wo, rfl⟩ : ∃ Wo, Wo = wr := ⟨wr, rfl⟩
      have hA0 : Aft Wo (Wo.alloc (.cells #[.string x.id, .string x.cat, .string x.stem, .string x.par, .slice x.fa x.fn x.fc] 24)) := (Aft.refl Wo).alloc _
      have HG0 := Lib.hid (HGD.out.aft hA0)
      have HR0 := Lib.hid (HRS.out.aft hA0)
      have hafc := haf.trans hA0
      have l0 := HG0.out.look hws
      have hbx := Lib.hid (BoxL.new Wo x)
      clear hA0
      cases hgo : inB gone x.stem
      · rw [hgo] at l0
        simp only [Bool.false_eq_true, if_false] at l0
        obtain ⟨va, vc, hv⟩ : ∃ a c, val x.stem = .slice a (grp xs x.stem).length c := by
          rcases (HG0.out.row x.stem).2 with ⟨e, h0⟩ | ⟨g, cap, cur, e, _⟩
          · exact ⟨none, 0, by rw [e, h0]⟩
          · exact ⟨_, _, e⟩
        have hgl := grp_le xs x.stem
        obtain ⟨m, hm⟩ : ∃ m, m = (grp xs x.stem).length := ⟨_, rfl⟩
        rw [hv, ← hm] at l0
        rw [← hm] at hv hgl
        have HM := Lib.hid hm
        have HV := Lib.hid hv
        have HGO := Lib.hid hgo
        clear hm hv hgo
        by_cases hm2 : m < 2
        · have hm2' : (m : Int) < 2 := by omega
          have HN := Lib.hid (show homG xs xs [] = L ++ homG xs (xs.drop (k + 1)) gone by rw [HEQ.out, homG_skip]; rw [HGO.out, ← HM.out]; simp [hm2])
          go_wp2
          go_roundw
          case rel => exact ⟨k + 1, gone, L, by omega, by go_num, HG0.out, HR0.out, HN.out, by omega, hafc⟩
          case measure => simp [intOf]; omega
        · have hm2' : ¬ (m : Int) < 2 := by omega
          have HN := Lib.hid (show homG xs xs [] = (L ++ [(grp xs x.stem).map Lx.id]) ++ homG xs (xs.drop (k + 1)) (gone ++ [x.stem]) by rw [HEQ.out, homG_take (by rw [HGO.out, ← HM.out]; simpa using hm2)]; simp)
          have hLs : Ls (Wo.alloc (.cells #[.string x.id, .string x.cat, .string x.stem, .string x.par, .slice x.fa x.fn x.fc] 24)) va m vc (grp xs x.stem) := by
            have e1 := HG0.out.row x.stem
            rw [HV.out, ← HM.out] at e1
            obtain ⟨a', c', e', hl⟩ := Ls.of_row e1 HM.out.symm (by omega) (fun y hy => (ha.lw y (List.mem_filter.1 hy).1).aft hafc)
            cases e'
            exact hl
          have hmn := hLs.le
          have hmc := hLs.cmax
          have HLS := Lib.hid hLs
          clear hLs
          go_wp2
          go_loopw [7, 29] (fun v i wr => ∃ j, j ≤ m ∧ i = .int .i64 (j : Nat) ∧ wr.ownsRow (Wo.heap.size + 1) 9 1 v j ((((grp xs x.stem).take j).map Lx.id).map Value.string) ∧ Aft (Wo.alloc (.cells #[.string x.id, .string x.cat, .string x.stem, .string x.par, .slice x.fa x.fn x.fc] 24)) wr) (fun _ i _ => m - (intOf i).toNat)
          case atStart => exact ⟨0, Nat.zero_le _, rfl, World.ownsRow_nil _ _ _ _, Aft.refl _⟩
          case round =>
            obtain ⟨j, hjm, rfl, hrow, hafj⟩ := hrel
            have HROW := Lib.hid hrow
            have hsw := hafj.size
            rw [World.size_alloc] at hsw
            clear hrow
            by_cases hltj : j < m
            · obtain ⟨b', off', z, rfl, hz, h5, hlw⟩ := HLS.out.at_ hltj
              obtain ⟨c0, c1, c2, c3, c4⟩ := h5.aft hafj
              have HZ := Lib.hid hz
              have O1 := Lib.hid (own_aft HROW.out ((Aft.refl wr).alloc (.cells #[.string z.id, .string z.cat, .string z.stem, .string z.par, .slice z.fa z.fn z.fc] 24)))
              clear hz h5 hlw l0
              go_wp2_with (at_builtin; refine wpList_append_own _ rfl _ _ 42 rfl (Wo.heap.size + 1) 9 i0 _ 1 16 Tryd.underlying42 hi hz0 hz1 hz2 rfl (by decide) _ j _ rfl (O1.out.alloc _) ⟨wr.heap.size + 1, 0, none⟩ 1 1 [.string z.id] rfl rfl (cell_one_at _ _ _ (by simp)) (by simp [Value.oneCell']) (by unfold maxLen; omega) (by omega) (by simp; omega) ?_; intro v' w3 own3 grow3 _)
              go_roundw
              case rel =>
                refine ⟨j + 1, by omega, by go_num, ?_, ((hafj.alloc _).alloc _).grown grow3 (fun r hr => by rw [World.size_alloc]; exact (O1.out.lt r hr).1)⟩
                rw [take_next HZ.out, List.map_append, List.map_append]
                exact own3
              case measure => simp [intOf]; omega
            · obtain rfl : j = m := by omega
              have hfull : (grp xs x.stem).take j = grp xs x.stem := List.take_of_length_le (by rw [← HM.out]; exact Nat.le_refl _)
              rw [hfull] at HROW
              clear hfull l0
              obtain ⟨ia, ic, rfl⟩ : ∃ a c, u7 = .slice a j c := by
                rcases HROW.out.2 with ⟨_, h0⟩ | ⟨g, cap, cur, e, _⟩
                · omega
                · exact ⟨_, _, e⟩
              have HG2 := Lib.hid (HG0.out.aft hafj)
              have HR2 := Lib.hid (HR0.out.aft hafj)
              have HB2 := Lib.hid (hbx.out.aft hafj)
              have haf2 := hafc.trans hafj
              have hs2 := haf2.size
              obtain ⟨vs, hvs⟩ := HR2.out.row
              have HVS := Lib.hid hvs
              clear hvs
              obtain ⟨nL, hnL⟩ : ∃ nL, nL = L.length := ⟨_, rfl⟩
              rw [← hnL] at hLk HVS
              have HNL := Lib.hid hnL
              clear hnL
              go_wp2_with (first
                | (at_delete; refine wpList_delete_own _ rfl _ _ 56 9 rfl 27 lawKs Tryd.underlying56 rawS w.heap.size xs.length D3 rfl m3 _ (keyL x.stem) rfl (keyOf_string_mk Tryd.underlying9 hws) ?_; intro w4 own4 turn4)
                | (at_builtin; refine wpList_append_own _ rfl _ _ 38 rfl w.heap.size 42 j0 _ 1 24 Tryd.underlying38 hj hy0 hy1 hy2 rfl (by decide) _ nL _ rfl (HVS.out.alloc _) ⟨wr.heap.size, 0, none⟩ 1 1 [.slice ia j ic] rfl rfl (cell_one_at _ _ _ rfl) (by simp [Value.oneCell']) (by unfold maxLen; omega) (by omega) (by simp; omega) ?_
                   intro v' w3 own3 grow3 _
                   have hk2 := ((HB2.out.aft ((Aft.refl wr).alloc (.cells #[.slice ia j ic] 42))).grown (own_aft HVS.out ((Aft.refl wr).alloc (.cells #[.slice ia j ic] 42))) (by decide) grow3).five.c2
                   simp only [Nat.zero_add] at hk2
                   have A3 := Lib.hid ((haf2.trans ((Aft.refl wr).alloc (.cells #[.slice ia j ic] 42))).grown grow3 (row_ltL HVS.out))
                   have R3 := Lib.hid (Rss.push (HR2.out.aft ((Aft.refl wr).alloc (.cells #[.slice ia j ic] 42))) (by rw [← HNL.out]; exact own_aft HVS.out ((Aft.refl wr).alloc (.cells #[.slice ia j ic] 42))) (own_aft HROW.out ((Aft.refl wr).alloc (.cells #[.slice ia j ic] 42))) (by rw [List.length_map]; exact HM.out.symm) (by rw [← HNL.out]; exact own3) grow3)
                   obtain ⟨⟨D3, m3, at3⟩, row3⟩ := (HG2.out.aft ((Aft.refl wr).alloc (.cells #[.slice ia j ic] 42))).grown (own_aft HVS.out ((Aft.refl wr).alloc (.cells #[.slice ia j ic] 42))) (by decide) grow3
                   have AT3 := Lib.hid at3
                   have ROW3 := Lib.hid row3
                   clear at3 row3 own3 grow3))
              go_roundw
              case rel =>
                refine ⟨k + 1, gone ++ [x.stem], L ++ [(grp xs x.stem).map Lx.id], by omega, by go_num, Gd.del ROW3.out m3 AT3.out x.stem own4 turn4.grown, R3.out.turned m3 turn4.grown, HN.out, ?_, A3.out.grown turn4.grown (fun r hr => by cases hr; exact Nat.le_refl _)⟩
                rw [List.length_append, ← HNL.out]
                simp
                omega
              case measure => simp [intOf]; omega
      · rw [hgo] at l0
        simp only [if_true] at l0
        have HN := Lib.hid (show homG xs xs [] = L ++ homG xs (xs.drop (k + 1)) gone by rw [HEQ.out, homG_skip]; rw [hgo]; rfl)
        clear hgo
        go_wp2
        go_roundw
        case rel => exact ⟨k + 1, gone, L, by omega, by go_num, HG0.out, HR0.out, HN.out, by omega, hafc⟩
        case measure => simp [intOf]; omega
    · obtain rfl : k = n := by omega
      have HN := Lib.hid (show homG xs xs [] = L by rw [HEQ.out, List.drop_of_length_le (by rw [hlen.out]; exact Nat.le_refl _)]; simp [homG])
      obtain ⟨a, c', rfl, hss⟩ := HRS.out.sss (fun l hl => by have := homG_small xs xs [] l (by rw [HN.out]; exact hl); omega)
      go_wp2
      go_ret
      exact ⟨⟨_, _, _, rfl, by rw [HN.out]; exact hss⟩, haf⟩
end Go.Proofs.YtpkhoklahcgcoaaDoor
