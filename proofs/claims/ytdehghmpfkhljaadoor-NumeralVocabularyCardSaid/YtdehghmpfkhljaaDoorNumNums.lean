/-
  numbers: all numbers with these words that need no more than the first powers, ascending. Conditions: the system is valid, its lists and the closures lie where it says.
-/
import Derived.Test.YtdehghmpfkhljaaDoorNumEach
import Derived.Test.YtdehghmpfkhljaaDoorNumSort
namespace Go.Proofs.YtdehghmpfkhljaaDoor
open Go.RowKit
open NumPlain

theorem enterN1 (args : Array Value) (w : World) : (callFunc 56 args).run Tryd.prog w = .ok (.enter 56 args) w := by go_simp
theorem wf_of {z : Int} (h0 : -9223372036854775808 ≤ z) (h1 : z ≤ 9223372036854775807) : (Lit.int .i64 z).wf = true := by
  simp [Lit.wf, IntKind.min, IntKind.max, IntKind.bits, IntKind.signed]
  omega
theorem subC_len (x : Nm) (toks : List BA) (ix : Nat) (p : Int) (f : Int → List Int) (M : Nat) (hf : ∀ z, (f z).length ≤ M) (hd : x.ds.length ≤ 20) : (subC x toks ix p f).length ≤ 20 * (20 * M) := by
  unfold subC
  split
  · refine Nat.le_trans (flat_len _ (20 * M) (fun q => ?_) _) (Nat.mul_le_mul_right _ (Nat.le_trans (digC_len x _) hd))
    exact Nat.le_trans (flat_len _ M (fun m => hf _) _) (Nat.mul_le_mul_right _ (Nat.le_trans (digC_len x _) hd))
  · simp
theorem roundsC_len (x : Nm) (toks : List BA) (N : Nat → List BA → List Int) (f : Int → List Int) (hf : ∀ z, (f z).length ≤ 1) (hN : ∀ i t, (N i t).length ≤ 10000) (hd : x.ds.length ≤ 20) : ∀ k, (roundsC x toks N f k).length ≤ k * 400400
  | 0 => by simp [roundsC]
  | k + 1 => by
    rw [roundsC, List.length_append, List.length_append, Nat.succ_mul]
    have h1 := roundsC_len x toks N f hf hN hd k
    have h2 := subC_len x toks k (pw x k) f 1 hf hd
    have h3 := hdC_len x toks k (pw x k) (N k) f 1 10000 hf (by omega) (hN k) hd 1
    have h4 := hdC_len x toks k (pw x k) (N k) f 1 10000 hf (by omega) (hN k) hd 2
    unfold headC
    rw [List.length_append]
    omega
/-- q is the k-th power of the base. -/
def QP (x : Nm) (k : Nat) (q : Int) : Prop := q = ((bs x ^ k : Nat) : Int)
theorem QP.next {x : Nm} (hx : Ok x) {k : Nat} {q : Int} (h : QP x k q) : q * x.base = pw x k := by
  unfold QP at h
  have hb : x.base = (bs x : Int) := by unfold bs; rcases hx.base with e | e <;> rw [e] <;> rfl
  rw [h, hb]
  unfold pw
  rw [Nat.pow_succ]
  push_cast
  rfl
theorem pw_le {x : Nm} (hx : Ok x) {k : Nat} (hk : k < 3) : 0 ≤ pw x k ∧ pw x k ≤ 8000 := by
  have h := pow_bounds hx.bs (show k + 1 ≤ 3 by omega)
  unfold pw
  omega
theorem st_new (w : World) (H : Nat) (h : w.heap.size = H) : St H H (fun _ => False) [] (w.alloc (.cells #[.slice none 0 0] 35)) := by
  subst h
  exact ⟨⟨.slice none 0 0, Boxed.new _ _ _, ⟨by simp, .inl ⟨rfl, rfl⟩⟩, fun k h => h.elim⟩, Nat.le_refl _, by simp⟩

set_option maxRecDepth 100000 in
set_option maxHeartbeats 3200000 in
theorem numbers_any (x : Nm) (hL : Len x) (Bs Bw : Nat) : ∀ (m : Nat), m ≤ 3 → ∀ (A : Option Addr) (n c : Nat) (toks : List BA) (w : World), Spl w Bs Bw x → Rw sV w A n c toks →
    Calls Tryd.prog 41 #[rV x Bs Bw, .slice A n c, .int .i64 (m : Int)] w (FrPost w (numL x m toks)) := by
  intro m
  induction m using Nat.strongRecOn with
  | _ m ih =>
  intro hm A n c toks w hsp ht
  have hx := hL.ok
  have htl := ht.len
  have hn64 := ht.le
  have hc64 := ht.cmax
  have A2 : Aft w ((w.alloc (.cells (rC x Bs Bw) 60)).alloc (.cells #[.slice A n c] 22)) := ((Aft.refl w).alloc _).alloc _
  have hWB : ((w.alloc (.cells (rC x Bs Bw) 60)).alloc (.cells #[.slice A n c] 22)).heap.size = w.heap.size + 2 := by simp only [World.size_alloc]
  have HAF := Lib.hid (fun (w' : World) (b : Below (w.heap.size + 2) ((w.alloc (.cells (rC x Bs Bw) 60)).alloc (.cells #[.slice A n c] 22)) w') => (show Aft ((w.alloc (.cells (rC x Bs Bw) 60)).alloc (.cells #[.slice A n c] 22)) w' from by unfold Aft; rw [hWB]; exact b))
  have hR2 : Rb ((w.alloc (.cells (rC x Bs Bw) 60)).alloc (.cells #[.slice A n c] 22)) w.heap.size x Bs Bw := (Rb.new w x Bs Bw _).aft ((Aft.refl _).alloc _)
  have hT2 : ((w.alloc (.cells (rC x Bs Bw) 60)).alloc (.cells #[.slice A n c] 22)).cell? ⟨w.heap.size + 1, 0, none⟩ = some (.slice A n c) := cellN _ _ _ _ (by simp only [World.size_alloc]) rfl
  have hsp2 := hsp.aft A2
  have ht2 := ht.aft A2
  have HKV := Lib.hid (keep_any x hx w.heap.size (w.heap.size + 1) Bs Bw A n c toks (w.heap.size + 2) (w.heap.size + 2) ((w.alloc (.cells (rC x Bs Bw) 60)).alloc (.cells #[.slice A n c] 22)) hWB ⟨hR2.c8, hT2, ht2, hsp2⟩)
  have ST0 := Lib.hid (st_new ((w.alloc (.cells (rC x Bs Bw) 60)).alloc (.cells #[.slice A n c] 22)) (w.heap.size + 2) hWB)
  have BL0 : Below (w.heap.size + 2) ((w.alloc (.cells (rC x Bs Bw) 60)).alloc (.cells #[.slice A n c] 22)) (((w.alloc (.cells (rC x Bs Bw) 60)).alloc (.cells #[.slice A n c] 22)).alloc (.cells #[.slice none 0 0] 35)) := (Below.refl (w.heap.size + 2) ((w.alloc (.cells (rC x Bs Bw) 60)).alloc (.cells #[.slice A n c] 22))).alloc (by rw [hWB]; exact Nat.le_refl _) _
  have HBL0 := Lib.hid BL0
  have hds : x.ds.length ≤ 20 := by rw [hL.ds]; rcases hL.b with e | e <;> omega
  have hdn : x.dn ≤ 20 := by rw [← hsp.wds.rd.len]; exact hds
  have hpn := Lib.hid hx.pn
  have HRL := Lib.hid (roundsC_len x toks (numL x) (keepP x toks) (keepP_len x toks) (fun i t => numL_len x i t) hds)
  have HSL := Lib.hid (fun k => subC_len x toks k (pw x k) (keepP x toks) 1 (keepP_len x toks) hds)
  have HBX := Lib.hid (fun (wr : World) (Bl : Below (w.heap.size + 2) ((w.alloc (.cells (rC x Bs Bw) 60)).alloc (.cells #[.slice A n c] 22)) wr) => (show Rb wr w.heap.size x Bs Bw ∧ wr.cell? ⟨w.heap.size + 1, 0, none⟩ = some (.slice A n c) from ⟨hR2.aft (HAF.out wr Bl), (HAF.out wr Bl).cell hT2⟩))
  have HTK := Lib.hid (fun (wr : World) (Bl : Below (w.heap.size + 2) ((w.alloc (.cells (rC x Bs Bw) 60)).alloc (.cells #[.slice A n c] 22)) wr) => (show Rw sV wr A n c toks from ht2.aft (HAF.out wr Bl)))
  have HSUB := Lib.hid (fun (k : Nat) (hk : k < 3) (lr : List Int) (wr : World) (hs : St (w.heap.size + 2) (w.heap.size + 2) (fun _ => False) lr wr) (hbel : Below (w.heap.size + 2) ((w.alloc (.cells (rC x Bs Bw) 60)).alloc (.cells #[.slice A n c] 22)) wr) (hl : lr.length ≤ 100000000) =>
    eachSub_any x Bs Bw A n c toks k (pw x k) 56 #[.pointer (some ⟨w.heap.size, 0, none⟩), .pointer (some ⟨w.heap.size + 1, 0, none⟩), .pointer (some ⟨w.heap.size + 2, 0, none⟩)] (w.heap.size + 2) (w.heap.size + 2) (fun _ => False) (fun _ => False) ((w.alloc (.cells (rC x Bs Bw) 60)).alloc (.cells #[.slice A n c] 22)) ((w.alloc (.cells (rC x Bs Bw) 60)).alloc (.cells #[.slice A n c] 22)) (fun z => (Lit.int .i64 z).wf = true) 1000000000 (keepP x toks) 1 (keepP_len x toks) enterN1 HKV.out hdn (pw_le hx hk).1 (pw_le hx hk).2 (fun q z hq hz => by
      have h1 := Int.mul_nonneg hq.1 (pw_le hx hk).1
      have h2 := Int.mul_le_mul (Int.le_of_lt hq.2) (pw_le hx hk).2 (pw_le hx hk).1 (by omega)
      exact wf_of (by have := hz.2; omega) (by have := hz.1; omega)) (by have := hpn.out; omega) lr wr (fun _ h => h) (fun _ h => h.elim) hbel hs hbel hsp2.wds ht2 hWB (by have := Nat.mul_le_mul hdn (show x.dn * 1 ≤ 20 by omega); omega))
  have HHEAD := Lib.hid (fun (k : Nat) (hk : k < 3) (hkm : k < m) (lr : List Int) (wr : World) (hs : St (w.heap.size + 2) (w.heap.size + 2) (fun _ => False) lr wr) (hbel : Below (w.heap.size + 2) ((w.alloc (.cells (rC x Bs Bw) 60)).alloc (.cells #[.slice A n c] 22)) wr) (hl : lr.length ≤ 100000000) =>
    eachHead_any x Bs Bw A n c toks k (pw x k) (numL x k) 56 #[.pointer (some ⟨w.heap.size, 0, none⟩), .pointer (some ⟨w.heap.size + 1, 0, none⟩), .pointer (some ⟨w.heap.size + 2, 0, none⟩)] (w.heap.size + 2) (w.heap.size + 2) (fun _ => False) (fun _ => False) ((w.alloc (.cells (rC x Bs Bw) 60)).alloc (.cells #[.slice A n c] 22)) ((w.alloc (.cells (rC x Bs Bw) 60)).alloc (.cells #[.slice A n c] 22)) (fun z => (Lit.int .i64 z).wf = true) 1000000000 (keepP x toks) 1 10000 (keepP_len x toks) enterN1 HKV.out hdn (pw_le hx hk).1 (pw_le hx hk).2 (fun q r hq hr0 hr1 => by
      have h1 := Int.mul_nonneg hq.1 (pw_le hx hk).1
      have h2 := Int.mul_le_mul (Int.le_of_lt hq.2) (pw_le hx hk).2 (pw_le hx hk).1 (by omega)
      exact wf_of (by omega) (by omega)) (by have := hpn.out; omega) (by omega) (numL_len x k) (fun t r hr => numL_range hr) lr wr (fun _ h => h) (fun _ h => h.elim) hbel hs hbel hsp2.wds ht2 hWB
      (fun A' n' c' toks' w' bl hr => ih k hkm (by omega) A' n' c' toks' w' (hsp2.aft (HAF.out w' bl)) hr) (by omega))
  have HNP := Lib.hid (numbers_plain hL hm toks)
  have HQN := Lib.hid (fun k q (h : QP x k q) => h.next hx)
  have HPW := Lib.hid (fun k (hk : k < 3) => pw_le hx hk)
  have HA2 := Lib.hid A2
  have HTL := Lib.hid htl
  by_cases h1 : n = 1
  · subst h1
    obtain ⟨b, off, t0, rfl, ht0, g0⟩ := ht2.at_ (k := 0) (by omega)
    have hg0 : toks.getD 0 ByteArray.empty = t0 := by simp [List.getD, ht0]
    have HR0 := Lib.hid (fun k => show rawC x (numL x) k toks = (digC x t0).flatMap (keepP x toks) ++ roundsC x toks (numL x) (keepP x toks) k from by unfold rawC; rw [if_pos htl, hg0])
    have HL0 := Lib.hid (show ((digC x t0).flatMap (keepP x toks)).length ≤ 20 by have h := digC_flat x t0 (keepP x toks) 1 (keepP_len x toks); omega)
    have HSX := Lib.hid (show ∀ w', Below (w.heap.size + 2) ((w.alloc (.cells (rC x Bs Bw) 60)).alloc (.cells #[.slice (some ⟨b, off, none⟩) 1 c] 22)) w' → (fun w' => w'.cell? ⟨(w.heap.size), 0, none⟩ = some (.int .i64 x.base) ∧ w'.cell? ⟨(w.heap.size), 1, none⟩ = some (.slice x.da x.dn x.dc) ∧ w'.cell? ⟨(w.heap.size), 2, none⟩ = some (.slice x.pa x.pn x.pc) ∧ w'.cell? ⟨(w.heap.size), 3, none⟩ = some (.bool x.sf) ∧ w'.cell? ⟨(w.heap.size), 4, none⟩ = some (.string x.jo) ∧ w'.cell? ⟨(w.heap.size), 5, none⟩ = some (.int .i64 x.sub) ∧ w'.cell? ⟨(w.heap.size), 6, none⟩ = some (.string x.le) ∧ w'.cell? ⟨(w.heap.size), 7, none⟩ = some (.bool x.om) ∧ w'.cell? ⟨(w.heap.size), 8, none⟩ = some (.func (.func 50) #[] #[.pointer (some ⟨Bs, 0, none⟩), .pointer (some ⟨Bw, 0, none⟩)]) ∧ w'.cell? ⟨w.heap.size + 1, 0, none⟩ = some (.slice (some ⟨b, off, none⟩) 1 c) ∧ w'.cell? ⟨b, off, none⟩ = some (.string t0)) w' by
      intro w' B1
      obtain ⟨hR, hT⟩ := HBX.out w' B1
      exact ⟨hR.c0, hR.c1, hR.c2, hR.c3, hR.c4, hR.c5, hR.c6, hR.c7, hR.c8, hT, (HAF.out w' B1).cell (p := ⟨b, off, none⟩) g0⟩)
    have HSS := Lib.hid (HSX.out _ BL0)
    have HC := Lib.hid (show ∀ w', Aft (((w.alloc (.cells (rC x Bs Bw) 60)).alloc (.cells #[.slice (some ⟨b, off, none⟩) 1 c] 22)).alloc (.cells #[.slice none 0 0] 35)) w' → Calls Tryd.prog 58 #[rV x Bs Bw, .string t0, .func (.func 56) #[] #[.pointer (some ⟨w.heap.size, 0, none⟩), .pointer (some ⟨w.heap.size + 1, 0, none⟩), .pointer (some ⟨w.heap.size + 2, 0, none⟩)]] w' (fun e W' => e = .returned (.tuple #[]) ∧ St (w.heap.size + 2) (w.heap.size + 2) (fun _ => False) ((digC x t0).flatMap (keepP x toks)) W' ∧ Below (w.heap.size + 2) ((w.alloc (.cells (rC x Bs Bw) 60)).alloc (.cells #[.slice (some ⟨b, off, none⟩) 1 c] 22)) W') by
      intro w' a
      have s1 := ST0.out.aft a
      have b1 : Below (w.heap.size + 2) ((w.alloc (.cells (rC x Bs Bw) 60)).alloc (.cells #[.slice (some ⟨b, off, none⟩) 1 c] 22)) w' := BL0.trans (Below.mono a ST0.out.big)
      refine (eachDigit_any x Bs Bw t0 56 #[.pointer (some ⟨w.heap.size, 0, none⟩), .pointer (some ⟨w.heap.size + 1, 0, none⟩), .pointer (some ⟨w.heap.size + 2, 0, none⟩)] (w.heap.size + 2) (w.heap.size + 2) (fun _ => False) (fun _ => False) ((w.alloc (.cells (rC x Bs Bw) 60)).alloc (.cells #[.slice (some ⟨b, off, none⟩) 1 c] 22)) ((w.alloc (.cells (rC x Bs Bw) 60)).alloc (.cells #[.slice (some ⟨b, off, none⟩) 1 c] 22)) (fun z => (Lit.int .i64 z).wf = true) 1000000000 (keepP x toks) 1 (keepP_len x toks) enterN1 HKV.out (fun z h0 h1 => wf_of (by omega) (by omega)) [] w' (fun _ h => h) (fun _ h => h.elim) b1 s1 b1 hsp2.wds hWB (by simp; omega)).mono ?_
      rintro e W' ⟨rfl, s, _, bl⟩
      exact ⟨rfl, by simpa using s, b1.trans bl⟩)
    clear hx hsp ht A2 hR2 hT2 hsp2 ht2 BL0 hds ih hL ht0 g0 hg0 htl
    go_enter Tryd.func41, Tryd.ntmps41
    go_wp2
    refine wp_region_held_drew (S := fun w' => w'.cell? ⟨(w.heap.size), 0, none⟩ = some (.int .i64 x.base) ∧ w'.cell? ⟨(w.heap.size), 1, none⟩ = some (.slice x.da x.dn x.dc) ∧ w'.cell? ⟨(w.heap.size), 2, none⟩ = some (.slice x.pa x.pn x.pc) ∧ w'.cell? ⟨(w.heap.size), 3, none⟩ = some (.bool x.sf) ∧ w'.cell? ⟨(w.heap.size), 4, none⟩ = some (.string x.jo) ∧ w'.cell? ⟨(w.heap.size), 5, none⟩ = some (.int .i64 x.sub) ∧ w'.cell? ⟨(w.heap.size), 6, none⟩ = some (.string x.le) ∧ w'.cell? ⟨(w.heap.size), 7, none⟩ = some (.bool x.om) ∧ w'.cell? ⟨(w.heap.size), 8, none⟩ = some (.func (.func 50) #[] #[.pointer (some ⟨Bs, 0, none⟩), .pointer (some ⟨Bw, 0, none⟩)]) ∧ w'.cell? ⟨w.heap.size + 1, 0, none⟩ = some (.slice (some ⟨b, off, none⟩) 1 c) ∧ w'.cell? ⟨b, off, none⟩ = some (.string t0)) (by kernel_rfl) (HSS.out) (fun hHeld => ?_)
    refine take_on (i := 0) (v := ?v7) rfl (by kernel_rfl) (by kernel_rfl) (by kernel_rfl) (fun _ _ _ h => h) (by rfl) (by assumption) ?y7 ?_
    case y7 => (intro w hSw; (try dsimp only at hSw); go_simp; (try with_reducible rfl))
    try simp only [Act.put, List.setIfInBounds_toArray, List.set_cons_zero, List.set_cons_succ]
    refine take_on (i := 1) (v := ?v8) rfl (by kernel_rfl) (by kernel_rfl) (by kernel_rfl) (fun _ _ _ h => h) (by rfl) (by assumption) ?y8 ?_
    case y8 => (intro w hSw; (try dsimp only at hSw); go_simp; (try with_reducible rfl))
    try simp only [Act.put, List.setIfInBounds_toArray, List.set_cons_zero, List.set_cons_succ]
    refine take_on (i := 2) (v := ?v9) rfl (by kernel_rfl) (by kernel_rfl) (by kernel_rfl) (fun _ _ _ h => h) (by rfl) (by assumption) ?y9 ?_
    case y9 => (intro w hSw; (try dsimp only at hSw); go_simp; (try with_reducible rfl))
    try simp only [Act.put, List.setIfInBounds_toArray, List.set_cons_zero, List.set_cons_succ]
    refine take_on (i := 3) (v := ?v10) rfl (by kernel_rfl) (by kernel_rfl) (by kernel_rfl) (fun _ _ _ h => h) (by rfl) (by assumption) ?y10 ?_
    case y10 => (intro w hSw; (try dsimp only at hSw); go_simp; (try with_reducible rfl))
    try simp only [Act.put, List.setIfInBounds_toArray, List.set_cons_zero, List.set_cons_succ]
    refine take_on (i := 4) (v := ?v11) rfl (by kernel_rfl) (by kernel_rfl) (by kernel_rfl) (fun _ _ _ h => h) (by rfl) (by assumption) ?y11 ?_
    case y11 => (intro w hSw; (try dsimp only at hSw); go_simp; (try with_reducible rfl))
    try simp only [Act.put, List.setIfInBounds_toArray, List.set_cons_zero, List.set_cons_succ]
    refine one_ready (i := 5) rfl (by kernel_rfl) (by rfl) (fun K hK => ?_)
    go_simp
    go_at_call 58
    refine (HC.out _ (by first | exact Below.drew (Below.drew (Aft.refl _)) | exact Below.drew (Aft.refl _) | exact Aft.refl _)).mono ?_
    rintro e' w' ⟨rfl, h9⟩
    have H9 := Lib.hid h9
    clear h9
    have hh : (fun w' => w'.cell? ⟨(w.heap.size), 0, none⟩ = some (.int .i64 x.base) ∧ w'.cell? ⟨(w.heap.size), 1, none⟩ = some (.slice x.da x.dn x.dc) ∧ w'.cell? ⟨(w.heap.size), 2, none⟩ = some (.slice x.pa x.pn x.pc) ∧ w'.cell? ⟨(w.heap.size), 3, none⟩ = some (.bool x.sf) ∧ w'.cell? ⟨(w.heap.size), 4, none⟩ = some (.string x.jo) ∧ w'.cell? ⟨(w.heap.size), 5, none⟩ = some (.int .i64 x.sub) ∧ w'.cell? ⟨(w.heap.size), 6, none⟩ = some (.string x.le) ∧ w'.cell? ⟨(w.heap.size), 7, none⟩ = some (.bool x.om) ∧ w'.cell? ⟨(w.heap.size), 8, none⟩ = some (.func (.func 50) #[] #[.pointer (some ⟨Bs, 0, none⟩), .pointer (some ⟨Bw, 0, none⟩)]) ∧ w'.cell? ⟨w.heap.size + 1, 0, none⟩ = some (.slice (some ⟨b, off, none⟩) 1 c) ∧ w'.cell? ⟨b, off, none⟩ = some (.string t0)) w' := HSX.out _ H9.out.2
    try go_simp
    refine hK.out _ _ (hh) (fun hHeld => ?_)
    clear hK K
    try simp only [Act.put, List.setIfInBounds_toArray, List.set_cons_zero, List.set_cons_succ]
    refine wpAnyH_done (by kernel_rfl) ?_ _
    go_wp2
    go_loopw [9, 22] (fun pq i wr => ∃ (k : Nat) (q : Int), k ≤ m ∧ i = .int .i64 (k : Nat) ∧ pq = .int .i64 q ∧ QP x k q ∧ St (w.heap.size + 2) (w.heap.size + 2) (fun _ => False) ((digC x t0).flatMap (keepP x toks) ++ roundsC x toks (numL x) (keepP x toks) k) wr ∧ Below (w.heap.size + 2) ((w.alloc (.cells (rC x Bs Bw) 60)).alloc (.cells #[.slice (some ⟨b, off, none⟩) 1 c] 22)) wr) (fun _ i _ => m - (intOf i).toNat)
    case atStart => exact ⟨0, 1, Nat.zero_le _, rfl, rfl, by simp [QP], by simpa [roundsC] using H9.out.1, H9.out.2⟩
    case round =>
      obtain ⟨k, q, hkm, rfl, rfl, hq, hs, hbel⟩ := hrel
      have HS := Lib.hid hs
      have HBE := Lib.hid hbel
      have HQ := Lib.hid hq
      clear hs hbel hq
      by_cases hlt : k < m
      · have hk3 : k < 3 := by omega
        obtain ⟨hR, hcT⟩ := HBX.out wr HBE.out
        obtain ⟨c0, c1, c2, c3, c4, c5, c6, c7, c8⟩ := hR
        have hki : (k : Int) < (m : Int) := by omega
        have hmul := HQN.out k q HQ.out
        have hpb := HPW.out k hk3
        have HSB := Lib.hid (fun w' (a : Aft wr w') => HSUB.out k hk3 _ w' (HS.out.aft a) (HBE.out.trans (Below.mono a HS.out.big)) (by have h1 := HRL.out k; have h2 := HL0.out; rw [List.length_append]; omega))
        have HSC := Lib.hid (fun w' s b (hl : _) => HHEAD.out k hk3 hlt (((digC x t0).flatMap (keepP x toks) ++ roundsC x toks (numL x) (keepP x toks) k) ++ subC x toks k (pw x k) (keepP x toks)) w' s b hl)
        have HLN := Lib.hid (show (((digC x t0).flatMap (keepP x toks) ++ roundsC x toks (numL x) (keepP x toks) k) ++ subC x toks k (pw x k) (keepP x toks)).length ≤ 100000000 by have h1 := HRL.out k; have h2 := HL0.out; have h3 := HSL.out k; rw [List.length_append, List.length_append]; omega)
        have HRC := Lib.hid (show roundsC x toks (numL x) (keepP x toks) (k + 1) = roundsC x toks (numL x) (keepP x toks) k ++ (subC x toks k (pw x k) (keepP x toks) ++ headC x toks k (pw x k) (numL x k) (keepP x toks)) from rfl)
        have HQ1 := Lib.hid (show QP x (k + 1) (pw x k) from rfl)
        generalize pw x k = PK at *
        have e1 : -9223372036854775808 ≤ PK := by omega
        have e2 : PK ≤ 9223372036854775807 := by omega
        go_wp2_with fail
        refine (HSB.out _ (by first | exact Aft.refl _ | exact (Aft.refl _).drewN _)).mono ?_
        rintro e w4 ⟨rfl, s4, -, b4⟩
        have B4 := Lib.hid (HBE.out.trans b4)
        have S4 := Lib.hid s4
        clear s4 b4 c0 c1 c2 c3 c4 c5 c6 c7 c8 hcT HSB
        obtain ⟨hR, hcT⟩ := HBX.out w4 B4.out
        obtain ⟨c0, c1, c2, c3, c4, c5, c6, c7, c8⟩ := hR
        have HSD := Lib.hid (fun w' (a : Aft w4 w') => HSC.out w' (S4.out.aft a) (B4.out.trans (Below.mono a S4.out.big)) HLN.out)
        go_wp2_with fail
        refine (HSD.out _ (by first | exact Aft.refl _ | exact (Aft.refl _).drewN _)).mono ?_
        rintro e w5 ⟨rfl, s5, -, b5⟩
        have B5 := Lib.hid (B4.out.trans b5)
        have S5 := Lib.hid s5
        clear s5 b5 c0 c1 c2 c3 c4 c5 c6 c7 c8 hcT HSD HSC
        go_wp2
        go_roundw
        case rel => exact ⟨k + 1, PK, by omega, by go_num, rfl, HQ1.out, by rw [HRC.out, ← List.append_assoc, ← List.append_assoc]; exact S5.out, B5.out⟩
        case measure => simp [intOf]; omega
      · obtain rfl : k = m := by omega
        have hki : ¬ (k : Int) < (k : Int) := by omega
        have HRAW := Lib.hid (show rawC x (numL x) k toks = (digC x t0).flatMap (keepP x toks) ++ roundsC x toks (numL x) (keepP x toks) k from HR0.out k)
        have HLR := Lib.hid (show ((digC x t0).flatMap (keepP x toks) ++ roundsC x toks (numL x) (keepP x toks) k).length ≤ 1099511627776 by have h1 := HRL.out k; have h2 := HL0.out; rw [List.length_append]; omega)
        obtain ⟨RW, hRW⟩ : ∃ RW, (digC x t0).flatMap (keepP x toks) ++ roundsC x toks (numL x) (keepP x toks) k = RW := ⟨_, rfl⟩
        rw [hRW] at HS HRAW HLR
        clear hRW
        obtain ⟨v, hv1, hv2, -⟩ := HS.out.row
        obtain ⟨A1, c1, rfl, -⟩ := Rw.of_row hv2 rfl
        have hb0 := hv1.cell
        have HV1 := Lib.hid hv1
        have HV2 := Lib.hid hv2
        have AR := Lib.hid (show Aft w wr from HA2.out.trans (HAF.out wr HBE.out))
        clear hv1 hv2
        have HSO := Lib.hid (sortI_any _ RW (w.heap.size + 2) wr HV2.out HLR.out)
        go_wp2_with fail
        refine HSO.out.mono ?_
        rintro e w5 ⟨rfl, own5, g5⟩
        have hv5 := HV1.out.kept g5 (HV1.out.not_row (by decide) HV2.out)
        have hb5 := hv5.cell
        have A5 := Lib.hid (AR.out.grown g5 (fun k hk => Nat.le_trans (by omega) (HV2.out.lt k hk).1))
        have own5' : w5.ownsRow (w.heap.size + 2) 3 1 (.slice A1 RW.length c1) (sortedI RW).length ((sortedI RW).map vI) := by rw [sortedI_len]; exact own5
        have HCO := Lib.hid (compactI_any _ (sortedI RW) (w.heap.size + 2) w5 own5' (by rw [sortedI_len]; exact HLR.out))
        have O5 := Lib.hid own5'
        clear hv5 own5 own5' g5 HSO hb0
        go_wp2_with fail
        refine HCO.out.mono ?_
        rintro e w6 ⟨⟨A6, k6, c6, rfl, r6, f6⟩, g6⟩
        have A7 := Lib.hid (A5.out.grown g6 (fun k hk => Nat.le_trans (by omega) (O5.out.lt k hk).1))
        have R6 := Lib.hid r6
        have F6 := Lib.hid f6
        clear r6 f6 g6 HCO
        go_wp2
        go_ret
        refine ⟨⟨_, _, _, rfl, ?_, fun b o m e => Nat.le_trans (by omega) (F6.out b o m e)⟩, A7.out⟩
        have e7 := HNP.out
        rw [HRAW.out] at e7
        rw [← e7]
        exact R6.out
  · have h1i : ¬ (n : Int) = 1 := by omega
    have HR0 := Lib.hid (fun k => show rawC x (numL x) k toks = [] ++ roundsC x toks (numL x) (keepP x toks) k from by unfold rawC; rw [if_neg (by omega)])
    have HL0 := Lib.hid (show ([] : List Int).length ≤ 20 by simp)
    clear hx hsp ht A2 hR2 hT2 hsp2 ht2 BL0 hds ih hL htl
    go_enter Tryd.func41, Tryd.ntmps41
    go_wp2
    go_loopw [9, 22] (fun pq i wr => ∃ (k : Nat) (q : Int), k ≤ m ∧ i = .int .i64 (k : Nat) ∧ pq = .int .i64 q ∧ QP x k q ∧ St (w.heap.size + 2) (w.heap.size + 2) (fun _ => False) ([] ++ roundsC x toks (numL x) (keepP x toks) k) wr ∧ Below (w.heap.size + 2) ((w.alloc (.cells (rC x Bs Bw) 60)).alloc (.cells #[.slice A n c] 22)) wr) (fun _ i _ => m - (intOf i).toNat)
    case atStart => exact ⟨0, 1, Nat.zero_le _, rfl, rfl, by simp [QP], by simpa [roundsC] using ST0.out, HBL0.out⟩
    case round =>
      obtain ⟨k, q, hkm, rfl, rfl, hq, hs, hbel⟩ := hrel
      have HS := Lib.hid hs
      have HBE := Lib.hid hbel
      have HQ := Lib.hid hq
      clear hs hbel hq
      by_cases hlt : k < m
      · have hk3 : k < 3 := by omega
        obtain ⟨hR, hcT⟩ := HBX.out wr HBE.out
        obtain ⟨c0, c1, c2, c3, c4, c5, c6, c7, c8⟩ := hR
        have hki : (k : Int) < (m : Int) := by omega
        have hmul := HQN.out k q HQ.out
        have hpb := HPW.out k hk3
        have HSB := Lib.hid (fun w' (a : Aft wr w') => HSUB.out k hk3 _ w' (HS.out.aft a) (HBE.out.trans (Below.mono a HS.out.big)) (by have h1 := HRL.out k; have h2 := HL0.out; rw [List.length_append]; omega))
        have HSC := Lib.hid (fun w' s b (hl : _) => HHEAD.out k hk3 hlt (([] ++ roundsC x toks (numL x) (keepP x toks) k) ++ subC x toks k (pw x k) (keepP x toks)) w' s b hl)
        have HLN := Lib.hid (show (([] ++ roundsC x toks (numL x) (keepP x toks) k) ++ subC x toks k (pw x k) (keepP x toks)).length ≤ 100000000 by have h1 := HRL.out k; have h2 := HL0.out; have h3 := HSL.out k; rw [List.length_append, List.length_append]; omega)
        have HRC := Lib.hid (show roundsC x toks (numL x) (keepP x toks) (k + 1) = roundsC x toks (numL x) (keepP x toks) k ++ (subC x toks k (pw x k) (keepP x toks) ++ headC x toks k (pw x k) (numL x k) (keepP x toks)) from rfl)
        have HQ1 := Lib.hid (show QP x (k + 1) (pw x k) from rfl)
        generalize pw x k = PK at *
        have e1 : -9223372036854775808 ≤ PK := by omega
        have e2 : PK ≤ 9223372036854775807 := by omega
        go_wp2_with fail
        refine (HSB.out _ (by first | exact Aft.refl _ | exact (Aft.refl _).drewN _)).mono ?_
        rintro e w4 ⟨rfl, s4, -, b4⟩
        have B4 := Lib.hid (HBE.out.trans b4)
        have S4 := Lib.hid s4
        clear s4 b4 c0 c1 c2 c3 c4 c5 c6 c7 c8 hcT HSB
        obtain ⟨hR, hcT⟩ := HBX.out w4 B4.out
        obtain ⟨c0, c1, c2, c3, c4, c5, c6, c7, c8⟩ := hR
        have HSD := Lib.hid (fun w' (a : Aft w4 w') => HSC.out w' (S4.out.aft a) (B4.out.trans (Below.mono a S4.out.big)) HLN.out)
        go_wp2_with fail
        refine (HSD.out _ (by first | exact Aft.refl _ | exact (Aft.refl _).drewN _)).mono ?_
        rintro e w5 ⟨rfl, s5, -, b5⟩
        have B5 := Lib.hid (B4.out.trans b5)
        have S5 := Lib.hid s5
        clear s5 b5 c0 c1 c2 c3 c4 c5 c6 c7 c8 hcT HSD HSC
        go_wp2
        go_roundw
        case rel => exact ⟨k + 1, PK, by omega, by go_num, rfl, HQ1.out, by rw [HRC.out, ← List.append_assoc, ← List.append_assoc]; exact S5.out, B5.out⟩
        case measure => simp [intOf]; omega
      · obtain rfl : k = m := by omega
        have hki : ¬ (k : Int) < (k : Int) := by omega
        have HRAW := Lib.hid (show rawC x (numL x) k toks = [] ++ roundsC x toks (numL x) (keepP x toks) k from HR0.out k)
        have HLR := Lib.hid (show ([] ++ roundsC x toks (numL x) (keepP x toks) k).length ≤ 1099511627776 by have h1 := HRL.out k; have h2 := HL0.out; rw [List.length_append]; omega)
        obtain ⟨RW, hRW⟩ : ∃ RW, [] ++ roundsC x toks (numL x) (keepP x toks) k = RW := ⟨_, rfl⟩
        rw [hRW] at HS HRAW HLR
        clear hRW
        obtain ⟨v, hv1, hv2, -⟩ := HS.out.row
        obtain ⟨A1, c1, rfl, -⟩ := Rw.of_row hv2 rfl
        have hb0 := hv1.cell
        have HV1 := Lib.hid hv1
        have HV2 := Lib.hid hv2
        have AR := Lib.hid (show Aft w wr from HA2.out.trans (HAF.out wr HBE.out))
        clear hv1 hv2
        have HSO := Lib.hid (sortI_any _ RW (w.heap.size + 2) wr HV2.out HLR.out)
        go_wp2_with fail
        refine HSO.out.mono ?_
        rintro e w5 ⟨rfl, own5, g5⟩
        have hv5 := HV1.out.kept g5 (HV1.out.not_row (by decide) HV2.out)
        have hb5 := hv5.cell
        have A5 := Lib.hid (AR.out.grown g5 (fun k hk => Nat.le_trans (by omega) (HV2.out.lt k hk).1))
        have own5' : w5.ownsRow (w.heap.size + 2) 3 1 (.slice A1 RW.length c1) (sortedI RW).length ((sortedI RW).map vI) := by rw [sortedI_len]; exact own5
        have HCO := Lib.hid (compactI_any _ (sortedI RW) (w.heap.size + 2) w5 own5' (by rw [sortedI_len]; exact HLR.out))
        have O5 := Lib.hid own5'
        clear hv5 own5 own5' g5 HSO hb0
        go_wp2_with fail
        refine HCO.out.mono ?_
        rintro e w6 ⟨⟨A6, k6, c6, rfl, r6, f6⟩, g6⟩
        have A7 := Lib.hid (A5.out.grown g6 (fun k hk => Nat.le_trans (by omega) (O5.out.lt k hk).1))
        have R6 := Lib.hid r6
        have F6 := Lib.hid f6
        clear r6 f6 g6 HCO
        go_wp2
        go_ret
        refine ⟨⟨_, _, _, rfl, ?_, fun b o m e => Nat.le_trans (by omega) (F6.out b o m e)⟩, A7.out⟩
        have e7 := HNP.out
        rw [HRAW.out] at e7
        rw [← e7]
        exact R6.out
end Go.Proofs.YtdehghmpfkhljaaDoor
