/-
  The closure of speller at multiples of a power. Conditions: as each theorem says.
-/
import Derived.Test.YtdehghmpfkhljaaDoorNumGp
namespace Go.Proofs.YtdehghmpfkhljaaDoor
open Go.RowKit
open NumPlain

section
variable {P : Program} {ops : Array Oper} {Q : Exit → Act → World → Prop} {md : Region.Mode} {S : World → Prop}
theorem two_readyN {i j : Nat} {oi oj : Oper} {fuel : Nat} {listed : Array Bool} {a : Act} {w : World} (hi : ops.toList[i]? = some oi) (hj : ops.toList[j]? = some oj) (hr : Region.ready md ops listed = [i, j])
    (hwi : Region.wanted oi (yielded ops a.tmps) = true) (hwj : Region.wanted oj (yielded ops a.tmps) = true)
    (h1 : ∀ K' : Act → World → Prop, Shut (∀ a w, S w → (S w → wpAnyH P md ops Q S fuel (listed.setIfInBounds i true) a w) → K' a w) → Oper.wp P oi a w K' Q)
    (h2 : ∀ K' : Act → World → Prop, Shut (∀ a w, S w → (S w → wpAnyH P md ops Q S fuel (listed.setIfInBounds j true) a w) → K' a w) → Oper.wp P oj a w K' Q) : wpAnyH P md ops Q S (fuel + 1) listed a w :=
  wpAnyH_ready hr (by simp) (AllReadyH.cons (at_list hi) (fun K hK => by rw [if_pos hwi]; exact h1 K hK) (AllReadyH.cons (at_list hj) (fun K hK => by rw [if_pos hwj]; exact h2 K hK) AllReadyH.nil))
end

theorem two_lls {w : World} {X Y : Option Addr} {n c m d : Nat} {l k : List BA} (h : Rw sV w X n c l) (g : Rw sV w Y m d k) (t : TypeId) : Lls (w.alloc (.cells #[.slice X n c, .slice Y m d] t)) (some ⟨w.heap.size, 0, none⟩) 2 2 [⟨X, n, c, l⟩, ⟨Y, m, d, k⟩] :=
  ⟨lit_rw (enc := Lk.enc) w t [⟨X, n, c, l⟩, ⟨Y, m, d, k⟩] (by simp), fun y hy => by
    have a := (Aft.refl w).alloc (.cells #[.slice X n c, .slice Y m d] t)
    simp only [List.mem_cons, List.not_mem_nil, or_false] at hy
    rcases hy with rfl | rfl
    · exact h.aft a
    · exact g.aft a⟩
theorem three_lls {w : World} {X Y Z : Option Addr} {n c m d u v : Nat} {l k j : List BA} (h : Rw sV w X n c l) (g : Rw sV w Y m d k) (f : Rw sV w Z u v j) (t : TypeId) : Lls (w.alloc (.cells #[.slice X n c, .slice Y m d, .slice Z u v] t)) (some ⟨w.heap.size, 0, none⟩) 3 3 [⟨X, n, c, l⟩, ⟨Y, m, d, k⟩, ⟨Z, u, v, j⟩] :=
  ⟨lit_rw (enc := Lk.enc) w t [⟨X, n, c, l⟩, ⟨Y, m, d, k⟩, ⟨Z, u, v, j⟩] (by simp), fun y hy => by
    have a := (Aft.refl w).alloc (.cells #[.slice X n c, .slice Y m d, .slice Z u v] t)
    simp only [List.mem_cons, List.not_mem_nil, or_false] at hy
    rcases hy with rfl | rfl | rfl
    · exact h.aft a
    · exact g.aft a
    · exact f.aft a⟩
theorem col_len (ls : List (List BA)) : (col ls).length ≤ ls.flatten.length := List.length_filter_le _ _
theorem dig_len (x : Nm) (n : Nat) : (dig x n).length ≤ 1 := by have := col_len [[x.ds.getD n ByteArray.empty]]; simpa [dig] using this
theorem head_len (x : Nm) (q k : Nat) : (headW x q k).length ≤ 2 := by
  unfold headW
  split
  · have h := col_len [dig x q, [x.ps.getD k ByteArray.empty]]
    have h2 := dig_len x q
    simp only [List.flatten_cons, List.flatten_nil, List.append_nil, List.length_append, List.length_cons, List.length_nil] at h
    omega
  · simp
theorem W_len (x : Nm) : ∀ (k n : Nat), (W x k n).length ≤ 1 + 3 * k
  | 0, n => dig_len x n
  | k + 1, n => by
    rw [W]
    split
    · have := W_len x k n; omega
    · split
      · have h := col_len [dig x (bs x ^ (k + 1) - n % bs x ^ (k + 1)), [x.le], col [headW x (n / bs x ^ (k + 1) + 1) k]]
        have h1 := dig_len x (bs x ^ (k + 1) - n % bs x ^ (k + 1))
        have h2 := col_len [headW x (n / bs x ^ (k + 1) + 1) k]
        have h3 := head_len x (n / bs x ^ (k + 1) + 1) k
        simp only [List.flatten_cons, List.flatten_nil, List.append_nil, List.length_append, List.length_cons, List.length_nil] at h h2
        omega
      · split
        · have h2 := col_len [headW x (n / bs x ^ (k + 1)) k]
          have h3 := head_len x (n / bs x ^ (k + 1)) k
          simp only [List.flatten_cons, List.flatten_nil, List.append_nil] at h2
          omega
        · have h3 := head_len x (n / bs x ^ (k + 1)) k
          have h4 := W_len x k (n % bs x ^ (k + 1))
          split
          · have h := col_len [W x k (n % bs x ^ (k + 1)), [x.jo], headW x (n / bs x ^ (k + 1)) k]
            simp only [List.flatten_cons, List.flatten_nil, List.append_nil, List.length_append, List.length_cons, List.length_nil] at h
            omega
          · have h := col_len [headW x (n / bs x ^ (k + 1)) k, [x.jo], W x k (n % bs x ^ (k + 1))]
            simp only [List.flatten_cons, List.flatten_nil, List.append_nil, List.length_append, List.length_cons, List.length_nil] at h
            omega

set_option maxRecDepth 100000 in
set_option maxHeartbeats 6400000 in
theorem mul_any (x : Nm) (hx : Ok x) (k m PK n : Nat) (hk : k ≤ 2) (hPK : bs x ^ (k + 1) = PK) (hm : 1 ≤ m) (hmb : m < bs x) (hn : m * PK = n) (Bs Bw : Nat) (w : World) (h : Spl w Bs Bw x) :
    Calls Tryd.prog 50 #[.int .i64 (n : Int), .pointer (some ⟨Bs, 0, none⟩), .pointer (some ⟨Bw, 0, none⟩)] w (SlPost w (col [headW x m k])) := by
  have hbs := hx.bs
  have hbase : x.base = (bs x : Int) := by unfold bs; rcases hx.base with h | h <;> rw [h] <;> rfl
  have hpn := hx.pn
  have hsub0 := hx.sub0
  have hsub1 := hx.sub1
  have hpc := h.wds.rp.le
  have hpm := h.wds.rp.cmax
  have c0 := h.box.c0
  have c2 := h.box.c2
  have c3 := h.box.c3
  have c4 := h.box.c4
  have c5 := h.box.c5
  have c6 := h.box.c6
  have c7 := h.box.c7
  have hfn := h.fn
  rw [hbase] at c0 hsub1
  obtain ⟨pb, poff, pw, hPA, hpw, _⟩ := h.wds.rp.at_ (show k < x.pn by omega)
  have hrp := h.wds.rp
  rw [hPA] at c2 hrp
  have hone := Rw.one hrp hpw
  have HO := Lib.hid hone
  have HPW := Lib.hid (show x.ps.getD k ByteArray.empty = pw by simp [List.getD, hpw])
  have hk1 : (k : Int) + 1 ≤ (x.pn : Int) := by omega
  have hk2 : ¬ x.pc = k := by omega
  have hk3 : (k : Int) ≤ (x.pc : Int) := by omega
  have hk4 : (k : Int) + 1 ≤ (x.pc : Int) := by omega
  have hP1 := pow_bounds hbs (show k + 1 ≤ 3 by omega)
  have hPb : bs x ≤ PK := by have := pow_le hbs (show 1 ≤ k + 1 by omega); rw [Nat.pow_one, hPK] at this; exact this
  have hPs : bs x ^ (k + 2) = bs x * PK := by rw [← hPK, Nat.pow_succ (n := bs x) (m := k + 1), Nat.mul_comm]
  rw [hPK] at hP1
  have hcf := enterW
  have HSp := Lib.hid h
  have hlo : PK ≤ n := by have := Nat.mul_le_mul_right PK hm; omega
  have hhi : n < bs x * PK := by rw [← hn]; exact Nat.mul_lt_mul_of_lt_of_le hmb (Nat.le_refl _) (by omega)
  have hn6 : n ≤ 160000 := by have := Nat.mul_le_mul (show bs x ≤ 20 by omega) hP1.2; omega
  have HG := Lib.hid (fun w0 => gp_any (bs x) k n PK w0 hPK hbs hk (by rw [hPK]; exact hlo) (by rw [hPs]; exact hhi))
  have hq : n / PK = m := by rw [← hn]; exact Nat.mul_div_cancel _ (by omega)
  have hr : n % PK = 0 := by rw [← hn]; exact Nat.mul_mod_left _ _
  have hq1 : (n : Int) / (PK : Int) = (m : Int) := by rw [← hq]; simp
  have hr1 : (n : Int) % (PK : Int) = 0 := by rw [← Int.natCast_emod, hr]; rfl
  have hq2 : (n : Int).tdiv (PK : Int) = (m : Int) := by rw [Int.tdiv_eq_ediv_of_nonneg (by omega)]; exact hq1
  have hr2 : (n : Int).tmod (PK : Int) = 0 := by rw [Int.tmod_eq_emod_of_nonneg (by omega)]; exact hr1
  have hwm : IntKind.i64.wrap (m : Int) = (m : Int) := wrap_small _ (by omega) (by omega)
  have hpz : ¬ (PK : Int) = 0 := by omega
  have hnb : ¬ (n : Int) < (bs x : Int) := by omega
  have hs5 : ¬ (PK : Int) - x.sub ≤ 0 := by omega
  have HM := Lib.hid (fun w0 (a : Aft w w0) => dig_any x hx m hmb Bs Bw w0 (h.aft a))
  have hdl := dig_len x m
  have HHD := Lib.hid (show headW x m k = if 1 < m ∨ x.om = false then col [dig x m, [pw]] else [pw] by unfold headW; rw [HPW.out])
  have HC : ¬ (0 < x.sub) ∨ 0 < x.sub := by omega
  have HQ : (1 < m) ∨ (m = 1 ∧ x.om = false) ∨ (m = 1 ∧ x.om = true) := by
    cases x.om
    · by_cases h1 : 1 < m
      · exact .inl h1
      · exact .inr (.inl ⟨by omega, rfl⟩)
    · by_cases h1 : 1 < m
      · exact .inl h1
      · exact .inr (.inr ⟨by omega, rfl⟩)
  clear hx h hn hq hr hPK hPs hbase hrp hpw hPA hone hbs
  generalize bs x = B at *
  generalize headW x m k = HW at *
  rcases HQ with hQ | ⟨rfl, hom⟩ | ⟨rfl, hom⟩
  · have hQ' : (1 : Int) < (m : Int) := by omega
    have HH := Lib.hid (show HW = col [dig x m, [pw]] by rw [HHD.out, if_pos (.inl hQ)])
    clear HHD
    rcases HC with hS | hS
    all_goals
      go_enter Tryd.func50, Tryd.ntmps50
      go_wp2_with fail
      refine (HG.out _).mono ?_
      rintro e w1 ⟨rfl, rfl⟩
      go_wp2
      go_quiet (fail)
      go_wp2_with fail
      refine (HM.out _ (Aft.drewN (Aft.refl _) _)).mono ?_
      rintro e w2 ⟨⟨Xd, nd, cd, rfl, rd⟩, Nd⟩
      have Rd := Lib.hid rd
      clear rd
      have Awd := Aft.trans (Aft.drewN (Aft.refl w) _) Nd
      go_wp2_with fail
      refine (collect_any _ 2 2 [⟨Xd, nd, cd, dig x m⟩, ⟨some ⟨pb, poff + k, none⟩, 1, x.pc - k, [pw]⟩] _ (two_lls Rd.out (HO.out.aft Awd) 22) (by simp [lists]; omega)).mono ?_
      rintro e w3 ⟨⟨Xh, nh, ch, rfl, rh⟩, Nh⟩
      have Rh := Lib.hid rh
      clear rh
      have Awh := Awd.trans (((Aft.refl w2).alloc _).trans Nh)
      have hhl : (col [dig x m, [pw]]).length ≤ 2 := by have h := col_len [dig x m, [pw]]; simp at h; omega
      go_wp2_with fail
      refine (collect_any _ 1 1 [⟨Xh, nh, ch, col [dig x m, [pw]]⟩] _ (one_lls Rh.out 22) (by simp [lists]; omega)).mono ?_
      rintro e w4 ⟨⟨Xz, nz, cz, rfl, rz⟩, Nz⟩
      have Rz := Lib.hid rz
      clear rz
      go_wp2
      go_ret
      exact ⟨⟨Xz, nz, cz, rfl, by rw [HH.out]; exact Rz.out⟩, Awh.trans (((Aft.refl w3).alloc _).trans Nz)⟩
  · have HH := Lib.hid (show HW = col [dig x 1, [pw]] by rw [HHD.out, if_pos (.inr hom)])
    rw [hom] at c7
    clear HHD
    rcases HC with hS | hS
    all_goals
      go_enter Tryd.func50, Tryd.ntmps50
      go_wp2_with fail
      refine (HG.out _).mono ?_
      rintro e w1 ⟨rfl, rfl⟩
      go_wp2
      go_quiet (fail)
      go_wp2_with fail
      refine (HM.out _ (Aft.drewN (Aft.refl _) _)).mono ?_
      rintro e w2 ⟨⟨Xd, nd, cd, rfl, rd⟩, Nd⟩
      have Rd := Lib.hid rd
      clear rd
      have Awd := Aft.trans (Aft.drewN (Aft.refl w) _) Nd
      go_wp2_with fail
      refine (collect_any _ 2 2 [⟨Xd, nd, cd, dig x 1⟩, ⟨some ⟨pb, poff + k, none⟩, 1, x.pc - k, [pw]⟩] _ (two_lls Rd.out (HO.out.aft Awd) 22) (by simp [lists]; omega)).mono ?_
      rintro e w3 ⟨⟨Xh, nh, ch, rfl, rh⟩, Nh⟩
      have Rh := Lib.hid rh
      clear rh
      have Awh := Awd.trans (((Aft.refl w2).alloc _).trans Nh)
      have hhl : (col [dig x 1, [pw]]).length ≤ 2 := by have h := col_len [dig x 1, [pw]]; simp at h; omega
      go_wp2_with fail
      refine (collect_any _ 1 1 [⟨Xh, nh, ch, col [dig x 1, [pw]]⟩] _ (one_lls Rh.out 22) (by simp [lists]; omega)).mono ?_
      rintro e w4 ⟨⟨Xz, nz, cz, rfl, rz⟩, Nz⟩
      have Rz := Lib.hid rz
      clear rz
      go_wp2
      go_ret
      exact ⟨⟨Xz, nz, cz, rfl, by rw [HH.out]; exact Rz.out⟩, Awh.trans (((Aft.refl w3).alloc _).trans Nz)⟩
  · have HH := Lib.hid (show HW = [pw] by rw [HHD.out, if_neg (by rw [hom]; simp)])
    rw [hom] at c7
    clear HHD
    rcases HC with hS | hS
    all_goals
      go_enter Tryd.func50, Tryd.ntmps50
      go_wp2_with fail
      refine (HG.out _).mono ?_
      rintro e w1 ⟨rfl, rfl⟩
      go_wp2
      go_quiet (fail)
      go_wp2_with fail
      refine (collect_any _ 1 1 [⟨some ⟨pb, poff + k, none⟩, 1, x.pc - k, [pw]⟩] _ (one_lls (HO.out.aft (Aft.drewN (Aft.refl w) _)) 22) (by simp [lists])).mono ?_
      rintro e w4 ⟨⟨Xz, nz, cz, rfl, rz⟩, Nz⟩
      have Rz := Lib.hid rz
      clear rz
      go_wp2
      go_ret
      exact ⟨⟨Xz, nz, cz, rfl, by rw [HH.out]; exact Rz.out⟩, Aft.trans (Aft.drewN (Aft.refl w) _) (((Aft.refl _).alloc _).trans Nz)⟩
end Go.Proofs.YtdehghmpfkhljaaDoor
