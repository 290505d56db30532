/-
  The reference's fault of one operation.
-/
import Derived.Test.YtinkdonaedoojaaCC2
import Derived.Test.YtinkdonaedoojaaCG2
namespace Go.Proofs.Ytinkdonaedoojaa.CL
open Go.RowKit Go.Sort

set_option maxHeartbeats 400000 in
set_option maxRecDepth 100000 in
theorem beyond_any (m : Int) (b : Nat) (w : World) (h0 : 0 ≤ m) (h1 : m ≤ 18446744073709551615) (hb : b ≤ 64) : Calls Try.prog 63 #[.int .u64 m, .int .i64 b] w fun e w' => e = .returned (.bool (!decide (m / 2 ^ b = 0))) ∧ w' = w := by
  by_cases h : b < 64
  · go_enter Try.func63, Try.ntmps63
    go_wp2
    go_ret
    exact ⟨ret_bool (by rw [Bool.eq_iff_iff]; simp), rfl⟩
  · obtain rfl : b = 64 := by omega
    have e : m / 2 ^ 64 = 0 := by omega
    go_enter Try.func63, Try.ntmps63
    go_wp2
    go_ret
    exact ⟨ret_bool (by rw [e]; rfl), rfl⟩
def shE (o : Oq) (b : Nat) : Nat := if rfB o = false ∨ rcB o b = false then 120 else 0
set_option maxHeartbeats 1000000 in
set_option maxRecDepth 100000 in
theorem shape_any (o : Oq) (a : Option Addr) (c b : Nat) (w : World) (hf : Fit o) (hb : b ≤ 64) : Calls Try.prog 54 #[opv o a c, .int .i64 b] w fun e w' => e = .returned (.int .i64 (shE o b : Nat)) ∧ Below w.heap.size w w' := by
  have BY := fun w => beyond_any o.m b w hf.m0 hf.m1 hb
  have E := em_lit o.n
  have HE : Hid (shE o b = if (if o.k == 1 then o.b == 0 else if o.k == 2 then emB o.n else if o.k == 3 then emB o.n && o.b == 0 else false) = false ∨ (if o.f then (o.m != 0) && (decide (o.m / 2 ^ b = 0) && anB o.v o.m) else (o.m == 0) && (o.v == 0)) = false then 120 else 0) := rfl
  generalize shE o b = sh at *
  clear hf
  obtain ⟨K, N, Q, B, F, M, V⟩ := o
  simp only at *
  generalize emB N = en at *
  go_enter Try.func54, Try.ntmps54
  go_wp2_with (go_at_call 63; (with_reducible refine (BY _).mono ?_); rintro e w1 ⟨rfl, rfl⟩)
  all_goals
    go_ret
    refine ⟨ret_int ?_, bal (Below.refl _ _) _⟩
    rw [HE.out]
    clear BY E HE
    first
      | (simp_all [anB]; done)
      | (have hk3 : K = 1 ∨ K = 2 ∨ K = 3 := by omega
         rcases hk3 with rfl | rfl | rfl <;> simp_all [anB] <;> omega)
      | (have hk3 : ¬ K = 1 ∧ ¬ K = 2 ∧ ¬ K = 3 := by omega
         simp_all [anB])
end Go.Proofs.Ytinkdonaedoojaa.CL
