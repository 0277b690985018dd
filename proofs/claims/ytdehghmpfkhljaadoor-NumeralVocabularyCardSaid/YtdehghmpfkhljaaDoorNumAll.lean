/-
  The closure of speller at every number. Conditions: the system is valid and lies where the closure looks.
-/
import Derived.Test.YtdehghmpfkhljaaDoorNumSub
import Derived.Test.YtdehghmpfkhljaaDoorNumRest1F
import Derived.Test.YtdehghmpfkhljaaDoorNumRest1T
import Derived.Test.YtdehghmpfkhljaaDoorNumRest2F
import Derived.Test.YtdehghmpfkhljaaDoorNumRest2T
import Derived.Test.YtdehghmpfkhljaaDoorNumRest3F
import Derived.Test.YtdehghmpfkhljaaDoorNumRest3T
namespace Go.Proofs.YtdehghmpfkhljaaDoor
open Go.RowKit
open NumPlain

theorem low_any (x : Nm) (hx : Ok x) : ∀ k, k ≤ 3 → Low x k
  | 0, _ => fun n hn Bs Bw w h => dig_any x hx n (by rwa [Nat.zero_add, Nat.pow_one] at hn) Bs Bw w h
  | k + 1, hk => fun n hn Bs Bw w h => by
    have ih := low_any x hx k (by omega)
    by_cases hlt : n < bs x ^ (k + 1)
    · rw [W_low hlt]; exact ih n hlt Bs Bw w h
    · obtain ⟨PK, hPK⟩ : ∃ PK, bs x ^ (k + 1) = PK := ⟨_, rfl⟩
      by_cases hss : 0 < x.sub ∧ PK ≤ n % PK + x.sub.toNat ∧ n / PK + 1 < bs x
      · exact subw_any x hx k PK n (by omega) hPK hlt hn hss Bs Bw w h
      · by_cases hrz : n % PK = 0
        · have hP1 := pow_bounds hx.bs (show k + 1 ≤ 3 by omega)
          have hw0 := W_high hlt
          rw [hPK] at hw0 hP1
          rw [if_neg hss, if_pos hrz] at hw0
          rw [hw0]
          have hQR := Nat.div_add_mod n PK
          refine mul_any x hx k (n / PK) PK n (by omega) hPK ((Nat.le_div_iff_mul_le (by omega)).2 (by omega)) ?_ ?_ Bs Bw w h
          · rw [Nat.div_lt_iff_lt_mul (by omega), ← hPK, Nat.mul_comm, ← Nat.pow_succ]; exact hn
          · rw [hrz, Nat.add_zero, Nat.mul_comm] at hQR; exact hQR
        · have hq1 : 1 ≤ n / PK := (Nat.le_div_iff_mul_le (by have := (pow_bounds hx.bs (show k + 1 ≤ 3 by omega)).1; omega)).2 (by omega)
          cases hsf : x.sf
          · by_cases h1 : 1 < n / PK
            · exact rest1F_any x hx k PK n (by omega) hPK hlt hn hrz hss ih h1 hsf Bs Bw w h
            · cases hom : x.om
              · exact rest2F_any x hx k PK n (by omega) hPK hlt hn hrz hss ih ⟨by omega, hom⟩ hsf Bs Bw w h
              · exact rest3F_any x hx k PK n (by omega) hPK hlt hn hrz hss ih ⟨by omega, hom⟩ hsf Bs Bw w h
          · by_cases h1 : 1 < n / PK
            · exact rest1T_any x hx k PK n (by omega) hPK hlt hn hrz hss ih h1 hsf Bs Bw w h
            · cases hom : x.om
              · exact rest2T_any x hx k PK n (by omega) hPK hlt hn hrz hss ih ⟨by omega, hom⟩ hsf Bs Bw w h
              · exact rest3T_any x hx k PK n (by omega) hPK hlt hn hrz hss ih ⟨by omega, hom⟩ hsf Bs Bw w h
end Go.Proofs.YtdehghmpfkhljaaDoor
