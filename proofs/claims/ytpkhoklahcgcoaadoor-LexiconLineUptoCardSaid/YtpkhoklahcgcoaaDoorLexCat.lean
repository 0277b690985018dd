/-
  Categories returns the categories of the lexemes, strictly ascending, each that occurs and no other. Condition: the slice holds the lexemes, at most 2^32 of them.
-/
import Derived.Test.YtpkhoklahcgcoaaDoorLexStem
import Derived.Test.YtpkhoklahcgcoaaDoorLexSort
import Derived.StringKeys
namespace Go.Proofs.YtpkhoklahcgcoaaDoor
open Go.RowKit Go.Maps Go.WideMaps
open FeatPlain

/-- What is collected from the groups of these stems. -/
def catsOf (xs : List Lx) (ks : List ByteArray) : List ByteArray := ks.flatMap fun s => (grp xs s).map Lx.cat
theorem catsOf_snoc (xs : List Lx) (ks : List ByteArray) (s : ByteArray) : catsOf xs (ks ++ [s]) = catsOf xs ks ++ (grp xs s).map Lx.cat := by simp [catsOf]
theorem catsOf_len : ∀ (xs : List Lx) (ks : List ByteArray), ks.Nodup → (catsOf xs ks).length ≤ xs.length
  | [], ks, _ => by
    have : catsOf [] ks = [] := by
      unfold catsOf grp
      simp
    rw [this]; simp
  | x :: xs, ks, h => by
    have ih := catsOf_len xs ks h
    have h1 : ∀ l : List ByteArray, l.Nodup → (x.stem ∉ l → (catsOf (x :: xs) l).length = (catsOf xs l).length) ∧ (catsOf (x :: xs) l).length ≤ (catsOf xs l).length + 1 := by
      intro l
      induction l with
      | nil => intro _; simp [catsOf]
      | cons a l ihl =>
        intro hn
        have hn' := List.nodup_cons.1 hn
        obtain ⟨e1, e2⟩ := ihl hn'.2
        unfold catsOf at e1 e2 ⊢
        rw [List.flatMap_cons, List.flatMap_cons, List.length_append, List.length_append]
        by_cases q : x.stem = a
        · subst q
          have g1 : grp (x :: xs) x.stem = x :: grp xs x.stem := by simp [grp]
          rw [g1, e1 hn'.1]
          refine ⟨fun h => absurd (List.mem_cons_self) h, ?_⟩
          simp; omega
        · have g1 : grp (x :: xs) a = grp xs a := by simp [grp, q]
          rw [g1]
          refine ⟨fun h => ?_, by omega⟩
          rw [e1 (fun m => h (List.mem_cons_of_mem _ m))]
    have := (h1 ks h).2
    rw [List.length_cons]
    omega

/-- Between two rounds of the range over the groups. -/
structure CInv (xs : List Lx) (left : Lit → Bool) (ks out : List ByteArray) : Prop where
  eq : out = catsOf xs ks
  nd : ks.Nodup
  all : ∀ s, grp xs s ≠ [] → left (keyL s) = true ∨ s ∈ ks
  past : ∀ s ∈ ks, left (keyL s) = false
theorem CInv.next {xs : List Lx} {left : Lit → Bool} {ks out : List ByteArray} (h : CInv xs left ks out) {s : ByteArray} (hs : left (keyL s) = true) :
    CInv xs (fun z => left z && !z.sameKey (keyL s)) (ks ++ [s]) (out ++ (grp xs s).map Lx.cat) := by
  have hns : s ∉ ks := fun hm => by rw [h.past s hm] at hs; cases hs
  refine ⟨by rw [h.eq, catsOf_snoc], List.nodup_append.2 ⟨h.nd, by simp, fun a ha b hb e => ?_⟩, fun t ht => ?_, fun t ht => ?_⟩
  · rw [List.mem_singleton.1 hb] at e
    exact hns (e ▸ ha)
  · by_cases e : t = s
    · exact .inr (by simp [e])
    · rcases h.all t ht with k | k
      · left
        rw [k, Bool.true_and, sameKey_ne (fun q => e (keyL_inj q))]
        rfl
      · exact .inr (List.mem_append_left _ k)
  · rcases List.mem_append.1 ht with k | k
    · simp [h.past t k]
    · rw [List.mem_singleton.1 k]
      have : (keyL s).sameKey (keyL s) = true := by simp [keyL, Lit.sameKey]
      simp [this]
theorem CInv.len {xs : List Lx} {left : Lit → Bool} {ks out : List ByteArray} (h : CInv xs left ks out) : out.length ≤ xs.length := by rw [h.eq]; exact catsOf_len xs ks h.nd
theorem CInv.done {xs : List Lx} {left : Lit → Bool} {ks out : List ByteArray} (h : CInv xs left ks out) (hl : ∀ k, left k = false) (s : ByteArray) : s ∈ out ↔ ∃ x ∈ xs, x.cat = s := by
  rw [h.eq]
  unfold catsOf
  rw [List.mem_flatMap]
  constructor
  · rintro ⟨t, _, h1⟩
    obtain ⟨x, hx, rfl⟩ := List.mem_map.1 h1
    exact ⟨x, (List.mem_filter.1 hx).1, rfl⟩
  · rintro ⟨x, hx, rfl⟩
    have hg : x ∈ grp xs x.stem := List.mem_filter.2 ⟨hx, by simp⟩
    refine ⟨x.stem, ?_, List.mem_map.2 ⟨x, hg, rfl⟩⟩
    rcases h.all x.stem (List.ne_nil_of_mem hg) with k | k
    · rw [hl] at k; cases k
    · exact k

def CatPost (w : World) (xs : List Lx) (e : Ending) (w' : World) : Prop := (∃ A n c cs, e = .returned (.slice A n c) ∧ Ss w' A n c cs ∧ AscS cs ∧ ∀ s, s ∈ cs ↔ ∃ x ∈ xs, x.cat = s) ∧ Aft w w'

theorem sortedS_len (out : List ByteArray) : (sortedS out).length = out.length := by simp [sortedS, stringsL, bytesL]

theorem cell_one_at (w : World) (v : Value) (t : TypeId) {p : Nat} (hp : w.heap.size = p) : ∀ j u, [v][j]? = some u → (w.alloc (.cells #[v] t)).cell? ((⟨p, 0, none⟩ : Addr).add j) = some u := by
  subst hp
  intro j u hj
  match j, hj with
  | 0, hj => simp at hj; subst hj; simp [Addr.add]

theorem Tryd.infoStr : (Tryd.prog.info? 9).map (fun i => (i.zero, i.size, i.bytes)) = some (some (.string ByteArray.empty), 1, 16) := by kernel_rfl

set_option maxRecDepth 100000 in
set_option maxHeartbeats 1600000 in
theorem Categories_any (A : Option Addr) (n c : Nat) (xs : List Lx) (w : World) (ha : Ls w A n c xs) (hsz : n ≤ 4294967296) :
    Calls Tryd.prog 16 #[.slice A n c] w (CatPost w xs) := by
  have hxl : xs.length ≤ 4294967296 := by rw [ha.len]; exact hsz
  have HB := Lib.hid (byStem_any A n c xs w ha hsz)
  obtain ⟨i0, hi, hz0, hz1, hz2⟩ := info_parts Tryd.infoStr
  go_enter Tryd.func16, Tryd.ntmps16
  go_wp2_with fail
  refine HB.out.mono ?_
  rintro e W1 ⟨⟨D, val, rfl, hG⟩, A1⟩
  have HG := Lib.hid hG
  have hown := hG.own
  clear HB hG
  go_wp2_with (at_range; refine wpList_range_own _ rfl _ 56 rfl 9 27 lawKs Tryd.underlying56 rawS w.heap.size xs.length D rfl hown ?_; intro w0 hrg0 hg0 hs0)
  clear hown
  have A10 : Aft W1 w0 := (Aft.refl W1).grown hg0 (fun k hk => by cases hk)
  go_frame
  go_loopw [3] (fun v wr => ∃ (left : Lit → Bool) (cnt : Nat) (ks out : List ByteArray), wr.ranges Tryd.prog 9 rawS w.heap.size W1.heap.size xs.length D left cnt ∧ wr.ownsRow W1.heap.size 9 1 v out.length (out.map Value.string) ∧ Hid (CInv xs left ks out) ∧ Aft W1 wr) (fun _ wr => wr.rangeLeft w.heap.size W1.heap.size)
  case atStart =>
    refine ⟨_, _, [], [], hrg0, World.ownsRow_nil _ _ _ _, ⟨rfl, List.nodup_nil, fun s hs => .inl ?_, fun s h => by cases h⟩, A10⟩
    rw [HG.out.has]
    cases hq : grp xs s with
    | nil => exact absurd hq hs
    | cons a l => rfl
  case round =>
    obtain ⟨left, cnt, ks, out, hrg, hrow, HI, haf⟩ := hrel
    have hm0 : wr.rangeLeft w.heap.size W1.heap.size = cnt := hrg.left_eq
    have hol := HI.out.len
    go_wp2_with (at_next; refine wpList_next_ranges _ rfl _ rfl 9 lawKs rawS Value.string (fun q : Option Addr × Nat × Nat => Value.slice q.1 q.2.1 q.2.2) (fun key kl hk => by obtain ⟨s, e, _⟩ := string_of_keyOf Tryd.underlying9 hk; exact ⟨s, e⟩) (fun v y hv => by obtain ⟨q, e, _⟩ := rawS_inv hv; exact ⟨q, e⟩) w.heap.size W1.heap.size xs.length D _ _ rfl hrg ?_ ?_)
    · intro hc0 hl0
      have HIN := Lib.hid (HI.out.done hl0)
      have h1 := sortS_any u3 out W1.heap.size wr hrow (by omega)
      have H1 := Lib.hid h1
      clear h1 hrg hc0 hl0 hm0
      go_wp2_with fail
      refine H1.out.mono ?_
      rintro e w2 ⟨rfl, own2, g2⟩
      have own2' : w2.ownsRow W1.heap.size 9 1 u3 (sortedS out).length ((sortedS out).map Value.string) := by rw [sortedS_len]; exact own2
      have H2 := Lib.hid (compactS_any u3 (sortedS out) W1.heap.size w2 own2' (by rw [sortedS_len]; omega))
      have A2 := Lib.hid (haf.grown g2 (fun k hk => (hrow.lt k hk).1))
      have R2 := Lib.hid own2'
      clear own2 own2' g2 H1
      go_wp2_with fail
      refine H2.out.mono ?_
      rintro e w3 ⟨⟨B, k, d, rfl, hss⟩, g3⟩
      have A3 := Lib.hid (A2.out.grown g3 (fun k hk => (R2.out.lt k hk).1))
      clear g3 H2
      go_wp2
      go_ret
      exact ⟨⟨_, _, _, _, rfl, hss, (compact_sortedS out).1, fun s => ((compact_sortedS out).2 s).trans (HIN.out s)⟩, A1.trans A3.out⟩
    · intro x qa qm qc kl y1 y2 w1 cnt1 hkey hlk hv hat hrg1 hlt hg1 hs1 hen
      obtain ⟨x', ex, rfl, hwx⟩ := string_of_keyOf Tryd.underlying9 hkey
      cases ex
      have hval : val x = .slice qa qm qc := by
        have e1 := HG.out.atk x
        obtain ⟨_, _, e2⟩ := rawS_inv hv
        rw [show keyL x = Lit.string x.data.toList from rfl, hat] at e1
        cases e2
        exact (DataW.held.inj e1).symm
      have hLs : Ls W1 qa qm qc (grp xs x) := by
        have e1 := HG.out.row x
        rw [hval] at e1
        have hgl := grp_le xs x
        obtain ⟨a', c', e', hl⟩ := Ls.of_row e1 rfl (by omega) (fun y hy => (ha.lw y (List.mem_filter.1 hy).1).aft A1)
        cases e'
        exact hl
      have hmn := hLs.le
      have hmc := hLs.cmax
      have hmx := hLs.max
      have HLS := Lib.hid hLs
      have HNX := Lib.hid (HI.out.next (s := x) hlk)
      have hnl := HNX.out.len
      rw [List.length_append, List.length_map] at hnl
      have A1w := haf.grown hg1 (fun k hk => by cases hk; exact Nat.le_refl _)
      have hrow1 := row_other hrow hg1 (fun r' hr' e => by cases e; exact row_ne_iter hrow hrg hr'.symm)
      have hgn : (grp xs x).length = qm := hLs.len
      rw [hgn] at hnl
      have HGN := Lib.hid hgn
      clear hLs hval hv hat hg1 hs1 hrow hrg hlk hkey hgn
      have hLT := Lib.hid hlt
      have HM0 := Lib.hid hm0
      clear hm0 hlt
      have HR1 := Lib.hid hrow1
      have HG1 := Lib.hid hrg1
      clear hrow1 hrg1
      go_wp2
      obtain ⟨left', hleft⟩ : ∃ left', left' = fun z => left z && !z.sameKey (Lit.string x.data.toList) := ⟨_, rfl⟩
      have HL' := Lib.hid hleft
      have HG1' := Lib.hid (show w1.ranges Tryd.prog 9 rawS w.heap.size W1.heap.size xs.length D left' cnt1 by rw [hleft]; exact HG1.out)
      clear hleft HG1
      go_loopw [3, 17] (fun v i wr => ∃ j, j ≤ qm ∧ i = .int .i64 (j : Nat) ∧ wr.ranges Tryd.prog 9 rawS w.heap.size W1.heap.size xs.length D left' cnt1 ∧ wr.ownsRow W1.heap.size 9 1 v (out ++ ((grp xs x).take j).map Lx.cat).length ((out ++ ((grp xs x).take j).map Lx.cat).map Value.string) ∧ Aft W1 wr) (fun _ i _ => qm - (intOf i).toNat)
      case atStart => exact ⟨0, Nat.zero_le _, rfl, HG1'.out, by simpa using HR1.out, A1w⟩
      case round =>
        obtain ⟨j, hj, rfl, hrg, hrow, hafj⟩ := hrel
        have HROW := Lib.hid hrow
        have HRG := Lib.hid hrg
        have hsw := hafj.size
        clear hrow hrg HG1' HR1
        by_cases hltj : j < qm
        · obtain ⟨b, off, z, rfl, hz, h5, hlw⟩ := HLS.out.at_ hltj
          obtain ⟨c0, c1, c2, c3, c4⟩ := h5.aft hafj
          have HZ := Lib.hid hz
          obtain ⟨no, hno⟩ : ∃ no, no = (out ++ ((grp xs x).take j).map Lx.cat).length := ⟨_, rfl⟩
          have hno8 : no ≤ 4294967296 := by rw [hno, List.length_append, List.length_map, List.length_take]; omega
          have HNO := Lib.hid hno
          rw [← hno] at HROW
          have hA0 := (Aft.refl wr).alloc (.cells #[.string z.id, .string z.cat, .string z.stem, .string z.par, .slice z.fa z.fn z.fc] 24)
          have O1 := Lib.hid (own_aft HROW.out hA0)
          have G1 := Lib.hid (HRG.out.alloc (.cells #[.string z.id, .string z.cat, .string z.stem, .string z.par, .slice z.fa z.fn z.fc] 24))
          clear hz h5 hlw hno hA0
          go_wp2_with (at_builtin; refine wpList_append_own _ rfl _ _ 42 rfl W1.heap.size 9 i0 _ 1 16 Tryd.underlying42 hi hz0 hz1 hz2 rfl (by decide) _ no _ rfl (O1.out.alloc _) ⟨wr.heap.size + 1, 0, none⟩ 1 1 [.string z.cat] rfl rfl (cell_one_at _ _ _ (by simp)) (by simp [Value.oneCell']) (by unfold maxLen; omega) (by omega) (by simp; omega) ?_; intro v' w3 own3 grow3 _)
          go_roundw
          case rel =>
            have e1 : (out ++ ((grp xs x).take j).map Lx.cat) ++ [z.cat] = out ++ ((grp xs x).take (j + 1)).map Lx.cat := by rw [take_next HZ.out, List.map_append, List.append_assoc]; rfl
            refine ⟨j + 1, by omega, by go_num, (G1.out.alloc (.cells #[.string z.cat] 9)).kept grow3 (row_ne_low (O1.out.alloc (.cells #[.string z.cat] 9)) HG.out.own.lt) (row_ne_iter (O1.out.alloc (.cells #[.string z.cat] 9)) (G1.out.alloc (.cells #[.string z.cat] 9))), ?_, ((hafj.alloc _).alloc _).grown grow3 (row_ltL O1.out)⟩
            rw [← e1, List.length_append, List.map_append, ← HNO.out]
            exact own3
          case measure => simp [intOf]; omega
        · obtain rfl : j = qm := by omega
          have HE := Lib.hid (show (grp xs x).take j = grp xs x from List.take_of_length_le (by rw [HGN.out]; exact Nat.le_refl _))
          rw [HE.out] at HROW
          go_wp2
          go_roundw
          case rel => exact ⟨_, cnt1, ks ++ [x], out ++ (grp xs x).map Lx.cat, HRG.out, HROW.out, by rw [HL'.out]; exact HNX, hafj⟩
          case measure => rw [HRG.out.left_eq, HM0.out]; exact hLT.out
end Go.Proofs.YtpkhoklahcgcoaaDoor
