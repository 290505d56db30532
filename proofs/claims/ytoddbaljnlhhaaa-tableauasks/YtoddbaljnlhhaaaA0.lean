/-
  tableau: rows and tableaus in memory; which tableaus are right.
-/
import Derived.Test.YtoddbaljnlhhaaaK0
import Derived.Test.YtoddbaljnlhhaaaPR3
namespace Go.Proofs.Ytoddbaljnlhhaaa
open Go.RowKit Go.Sort
open PL (pv PS)

theorem bk_on {W W' : World} {b : Nat} {cs : Array Value} {T : TypeId} (h : BK W b cs T) (hb : Below W.heap.size W W') : BK W' b cs T := (hb.block _ h.lt).trans h
/-- A row as it lies in memory: any numbers. -/
structure Pr where
  n : Int
  x : Nat
  z : Nat
  f : Int
abbrev Pr.v (r : Pr) : Value := pv r.n r.x r.z r.f
abbrev Pr.cs (r : Pr) : List Value := [.int .i64 r.n, .int .u64 (r.x : Int), .int .u64 (r.z : Int), .int .i64 r.f]
/-- The numbers X and Z are of 64 bits. -/
def Pr.w64 (r : Pr) : Prop := r.x < 18446744073709551616 ∧ r.z < 18446744073709551616
/-- It is a right string. -/
def Pr.gd (r : Pr) : Prop := PL.Good r.n r.x r.z r.f
structure Tb where
  n : Int
  rows : List Pr
abbrev Tb.v (t : Tb) (a : Option Addr) (c : Nat) : Value := .agg #[.int .i64 t.n, .slice a t.rows.length c]
/-- Rows that can be read. -/
structure RP (W : World) (b o : Nat) (rs : List Pr) : Prop where
  c0 : ∀ j (h : j < rs.length), W.cell? ⟨b, o + j * 4, none⟩ = some (.int .i64 rs[j].n)
  c1 : ∀ j (h : j < rs.length), W.cell? ⟨b, o + j * 4 + 1, none⟩ = some (.int .u64 (rs[j].x : Int))
  c2 : ∀ j (h : j < rs.length), W.cell? ⟨b, o + j * 4 + 2, none⟩ = some (.int .u64 (rs[j].z : Int))
  c3 : ∀ j (h : j < rs.length), W.cell? ⟨b, o + j * 4 + 3, none⟩ = some (.int .i64 rs[j].f)
  lt : b < W.heap.size
theorem RP.below {W W' : World} {b o : Nat} {rs : List Pr} (h : RP W b o rs) (hb : Below W.heap.size W W') : RP W' b o rs :=
  ⟨fun j hj => (hb.cell (p := ⟨b, _, none⟩) h.lt).trans (h.c0 j hj), fun j hj => (hb.cell (p := ⟨b, _, none⟩) h.lt).trans (h.c1 j hj), fun j hj => (hb.cell (p := ⟨b, _, none⟩) h.lt).trans (h.c2 j hj), fun j hj => (hb.cell (p := ⟨b, _, none⟩) h.lt).trans (h.c3 j hj), Nat.lt_of_lt_of_le h.lt hb.size⟩
/-- A slice of rows. -/
structure TS (W : World) (a : Option Addr) (c : Nat) (rs : List Pr) : Prop where
  cap : rs.length ≤ c
  at_ : ∀ k, k < rs.length → ∃ b o, a = some ⟨b, o, none⟩ ∧ RP W b o rs
  w64 : ∀ k (h : k < rs.length), rs[k].w64
  l : c ≤ 9223372036854775807
theorem TS.below {W W' : World} {a : Option Addr} {c : Nat} {rs : List Pr} (h : TS W a c rs) (hb : Below W.heap.size W W') : TS W' a c rs :=
  ⟨h.cap, fun k hk => by obtain ⟨b, o, e, r⟩ := h.at_ k hk; exact ⟨b, o, e, r.below hb⟩, h.w64, h.l⟩
/-- Do two rows commute? -/
abbrev comP (r s : Pr) : Prop := PL.comB r.x r.z s.x s.z = 0
/-- A row that a tableau of n qubits may have. -/
def rowOk (n : Int) (r : Pr) : Prop := r.gd ∧ r.n = n ∧ r.f % 2 = 0
/-- A right tableau. -/
structure Rt (t : Tb) : Prop where
  n0 : 0 ≤ t.n
  n1 : t.n ≤ 64
  len : (t.rows.length : Int) = 2 * t.n
  row : ∀ j (h : j < t.rows.length), rowOk t.n t.rows[j]
  com : ∀ j (h : j < t.rows.length) k (hk : k < j), comP t.rows[j] (t.rows[k]'(Nat.lt_trans hk h)) ↔ ¬ (j : Int) = (k : Int) + t.n
theorem PL.Good.of {r : Pr} (h : r.gd) : ∃ p : PS, p.ok ∧ r.v = p.v ∧ r = ⟨p.n, p.x, p.z, p.f⟩ := by
  obtain ⟨p, h1, h2, h3, h4, h5, h6⟩ := PL.Good.ps h
  exact ⟨p, h1, h2, by obtain ⟨n, x, z, f⟩ := r; simp only at *; subst h3; subst h4; subst h5; subst h6; rfl⟩

set_option maxHeartbeats 1000000 in
theorem sized_any (n : Int) (w : World) : Calls Try.prog 40 #[.int .i64 n] w fun e w' => e = .returned (.bool (decide (0 ≤ n ∧ n ≤ 64))) ∧ w' = w := by
  by_cases h0 : 0 ≤ n
  · by_cases h1 : n ≤ 64
    · rw [decide_eq_true ⟨h0, h1⟩]
      go_enter Try.func40, Try.ntmps40
      go_wp2
      go_ret
      exact ⟨rfl, rfl⟩
    · rw [decide_eq_false (fun h => h1 h.2)]
      go_enter Try.func40, Try.ntmps40
      go_wp2
      go_ret
      exact ⟨rfl, rfl⟩
  · rw [decide_eq_false (fun h => h0 h.1)]
    go_enter Try.func40, Try.ntmps40
    go_wp2
    go_ret
    exact ⟨rfl, rfl⟩
theorem commute_any (p q : PS) (w : World) (hp : p.ok) (hq : q.ok) (hn : p.n = q.n) :
    Calls Try.prog 47 #[p.v, q.v] w fun e w' => e = .returned (.bool (decide (PL.comB p.x p.z q.x q.z = 0))) ∧ Below w.heap.size w w' := by
  have C := fun w => PL.commute_yes p q w hp hq hn
  generalize decide (PL.comB p.x p.z q.x q.z = 0) = r at *
  clear hp hq hn
  obtain ⟨n, x, z, f⟩ := p
  obtain ⟨n', x', z', f'⟩ := q
  obtain ⟨hW, b1, b2⟩ := PL.two_boxes w n x z f n' x' z' f'
  go_enter Try.func47, Try.ntmps47
  go_wp2_with (go_at_call 67; (with_reducible refine (C _).mono ?_); rintro e w1 ⟨rfl, hB1⟩)
  go_ret
  exact ⟨rfl, btr hW hB1⟩
end Go.Proofs.Ytoddbaljnlhhaaa
