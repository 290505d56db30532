/-
  Boxes of the reference's whole numbers; its One.
-/
import Derived.Test.YtalaacfoaelipaaDoorR2
import Derived.Test.YtalaacfoaelipaaDoorR3
import Derived.Test.YtalaacfoaelipaaDoorS1
import Derived.Test.YtalaacfoaelipaaDoorW6
import Derived.Deep.RegionHeld3
namespace Go.Proofs.YtalaacfoaelipaaDoor
open Go.RowKit Go.Sort

/-- A variable that holds a whole number of the reference. -/
structure Bx (W : World) (B : Nat) (s : Int) (a : Option Addr) (n c : Nat) : Prop where
  c0 : W.cell? ⟨B, 0, none⟩ = some (.int .i64 s)
  c1 : W.cell? ⟨B, 1, none⟩ = some (.slice a n c)
  f0 : W.frozen? ⟨B, 0, none⟩ = false
  f1 : W.frozen? ⟨B, 1, none⟩ = false
  ty : bty W B = some 60
theorem Bx.lt {W : World} {B : Nat} {s : Int} {a : Option Addr} {n c : Nat} (h : Bx W B s a n c) : B < W.heap.size := block_lt_of_cell h.c0
theorem Bx.below {W W' : World} {B : Nat} {s : Int} {a : Option Addr} {n c : Nat} (h : Bx W B s a n c) (hb : Below W.heap.size W W') : Bx W' B s a n c := by
  obtain ⟨hc, hf⟩ := bcell hb
  have hl := h.lt
  exact ⟨(hc _ _ hl).trans h.c0, (hc _ _ hl).trans h.c1, (hf _ _ hl).trans h.f0, (hf _ _ hl).trans h.f1, (bty_below hb hl).trans h.ty⟩
theorem Bx.new (W : World) (s : Int) (a : Option Addr) (n c : Nat) : Bx (W.alloc (.cells #[.int .i64 s, .slice a n c] 60)) W.heap.size s a n c where
  c0 := by rw [World.cell?_alloc_at _ _ _ _ rfl]; rfl
  c1 := by rw [World.cell?_alloc_at _ _ _ _ rfl]; rfl
  f0 := World.frozen?_alloc_at _ _ _ _ rfl
  f1 := World.frozen?_alloc_at _ _ _ _ rfl
  ty := bty_new _ _ _
theorem Bx.alloc {W : World} {B : Nat} {s : Int} {a : Option Addr} {n c : Nat} (h : Bx W B s a n c) (o : Obj) : Bx (W.alloc o) B s a n c := h.below (bal (Below.refl _ _) _)
/-- A whole number stored into a variable. -/
def st2 (W : World) (B : Nat) (s : Int) (a : Option Addr) (n c : Nat) : World := (W.setCell ⟨B, 0, none⟩ (.int .i64 s)).setCell ⟨B, 1, none⟩ (.slice a n c)
theorem Bx.put {W : World} {B : Nat} {s : Int} {a : Option Addr} {n c : Nat} (h : Bx W B s a n c) (s' : Int) (a' : Option Addr) (n' c' : Nat) : Bx (st2 W B s' a' n' c') B s' a' n' c' where
  c0 := by
    unfold st2
    rw [World.cell?_setCell_other _ _ _ _ (fun e => by injection e with _ e2; cases e2), World.cell?_setCell_same' _ _ _ (by rw [h.c0]; rfl)]
  c1 := by
    unfold st2
    rw [World.cell?_setCell_same' _ _ _ (by rw [World.cell?_setCell_other _ _ _ _ (fun e => by injection e with _ e2; cases e2), h.c1]; rfl)]
  f0 := by unfold st2; simp; exact h.f0
  f1 := by unfold st2; simp; exact h.f1
  ty := by unfold st2; rw [bty_set, bty_set]; exact h.ty
theorem Bx.far {W : World} {B : Nat} {s : Int} {a : Option Addr} {n c : Nat} (h : Bx W B s a n c) {R : Nat} (hR : R ≠ B) (s' : Int) (a' : Option Addr) (n' c' : Nat) : Bx (st2 W R s' a' n' c') B s a n c where
  c0 := by unfold st2; rw [World.cell?_setCell_far _ _ _ _ hR, World.cell?_setCell_far _ _ _ _ hR]; exact h.c0
  c1 := by unfold st2; rw [World.cell?_setCell_far _ _ _ _ hR, World.cell?_setCell_far _ _ _ _ hR]; exact h.c1
  f0 := by unfold st2; simp; exact h.f0
  f1 := by unfold st2; simp; exact h.f1
  ty := by unfold st2; rw [bty_set, bty_set]; exact h.ty
/-- A root's cell that may be written. -/
structure Rc (W : World) (B : Nat) : Prop where
  c0 : W.cell? ⟨B, 0, none⟩ = some (.int .i64 0)
  c1 : W.cell? ⟨B, 1, none⟩ = some (.int .i64 0)
  c2 : W.cell? ⟨B, 2, none⟩ = some (.int .i64 0)
  f0 : W.frozen? ⟨B, 0, none⟩ = false
  f1 : W.frozen? ⟨B, 1, none⟩ = false
  f2 : W.frozen? ⟨B, 2, none⟩ = false
theorem Rc.lt {W : World} {B : Nat} (h : Rc W B) : B < W.heap.size := block_lt_of_cell h.c0
theorem Rc.below {W W' : World} {B : Nat} (h : Rc W B) (hb : Below W.heap.size W W') : Rc W' B := by
  obtain ⟨hc, hf⟩ := bcell hb
  have hl := h.lt
  exact ⟨(hc _ _ hl).trans h.c0, (hc _ _ hl).trans h.c1, (hc _ _ hl).trans h.c2, (hf _ _ hl).trans h.f0, (hf _ _ hl).trans h.f1, (hf _ _ hl).trans h.f2⟩
theorem Rc.new (W : World) : Rc (W.alloc (.cells #[.int .i64 0, .int .i64 0, .int .i64 0] 23)) W.heap.size where
  c0 := by rw [World.cell?_alloc_at _ _ _ _ rfl]; rfl
  c1 := by rw [World.cell?_alloc_at _ _ _ _ rfl]; rfl
  c2 := by rw [World.cell?_alloc_at _ _ _ _ rfl]; rfl
  f0 := World.frozen?_alloc_at _ _ _ _ rfl
  f1 := World.frozen?_alloc_at _ _ _ _ rfl
  f2 := World.frozen?_alloc_at _ _ _ _ rfl
theorem Rc.far {W : World} {B : Nat} (h : Rc W B) {R : Nat} (hR : R ≠ B) (s' : Int) (a' : Option Addr) (n' c' : Nat) : Rc (st2 W R s' a' n' c') B where
  c0 := by unfold st2; rw [World.cell?_setCell_far _ _ _ _ hR, World.cell?_setCell_far _ _ _ _ hR]; exact h.c0
  c1 := by unfold st2; rw [World.cell?_setCell_far _ _ _ _ hR, World.cell?_setCell_far _ _ _ _ hR]; exact h.c1
  c2 := by unfold st2; rw [World.cell?_setCell_far _ _ _ _ hR, World.cell?_setCell_far _ _ _ _ hR]; exact h.c2
  f0 := by unfold st2; simp; exact h.f0
  f1 := by unfold st2; simp; exact h.f1
  f2 := by unfold st2; simp; exact h.f2
theorem II.st {W : World} {a : Option Addr} {n c : Nat} {z : Int} (h : II W a n c z) {R : Nat} (hR : bty W R = some 60) (s' : Int) (a' : Option Addr) (n' c' : Nat) : II (st2 W R s' a' n' c') a n c z := h.put2 hR _ _
theorem below_st2 {w W : World} (h : Below w.heap.size w W) {R : Nat} (hR : w.heap.size ≤ R) (s : Int) (a : Option Addr) (n c : Nat) : Below w.heap.size w (st2 W R s a n c) := (h.setCell hR _).setCell hR _
/-- How long the digits of such a number are. -/
theorem II.len {W : World} {a : Option Addr} {n c : Nat} {z : Int} (h : II W a n c z) {m : Nat} (hz : z.natAbs < 65536 ^ m) : n ≤ m := by
  obtain ⟨l, rfl, _, _, hm, hv, _⟩ := h.ex
  exact nm_len hm (by omega)
theorem II.cap {W : World} {a : Option Addr} {n c : Nat} {z : Int} (h : II W a n c z) : n ≤ c ∧ c ≤ 9223372036854775807 := by
  obtain ⟨l, rfl, _, _, _, _, h1, h2⟩ := h.ex
  exact ⟨h1, h2⟩
/-- What One has between two rounds. -/
structure OneS (w W : World) (p q : Int) (a : Option Addr) (n c : Nat) (a' : Option Addr) (n' c' : Nat) : Prop where
  below : Below w.heap.size w W
  bp : Bx W w.heap.size (sgn p) a n c
  bq : Bx W (w.heap.size + 1) (sgn q) a' n' c'
  rc : Rc W (w.heap.size + 1 + 1)
  ip : II W a n c p
  iq : II W a' n' c' q
theorem OneS.step {w W : World} {p q : Int} {a : Option Addr} {n c : Nat} {a' : Option Addr} {n' c' : Nat} (h : OneS w W p q a n c a' n' c') {W3 : World} (hK : Below W.heap.size W W3)
    {P Q : Int} {b : Option Addr} {m d : Nat} {b' : Option Addr} {m' d' : Nat} (hP : II W3 b m d P) (hQ : II W3 b' m' d' Q) :
    OneS w (st2 (st2 W3 w.heap.size (sgn P) b m d) (w.heap.size + 1) (sgn Q) b' m' d') P Q b m d b' m' d' := by
  have hB := btr h.below hK
  have bp := h.bp.below hK
  have bq := h.bq.below hK
  have rc := h.rc.below hK
  have bp2 := bp.put (sgn P) b m d
  have bq2 := bq.far (R := w.heap.size) (by omega) (sgn P) b m d
  exact ⟨below_st2 (below_st2 hB (Nat.le_refl _) _ _ _ _) (by omega) _ _ _ _, bp2.far (by omega) _ _ _ _, bq2.put _ _ _ _, (rc.far (by omega) _ _ _ _).far (by omega) _ _ _ _,
    (hP.st bp.ty _ _ _ _).st bq2.ty _ _ _ _, (hQ.st bp.ty _ _ _ _).st bq2.ty _ _ _ _⟩
theorem keepB {W V : World} {B B' : Nat} {s s' : Int} {a a' : Option Addr} {n c n' c' : Nat} (h1 : Bx W B s a n c) (h2 : Bx W B' s' a' n' c') (h : Below W.heap.size W V) :
    Below W.heap.size W V ∧ V.cell? ⟨B, 0, none⟩ = some (.int .i64 s) ∧ V.cell? ⟨B, 1, none⟩ = some (.slice a n c) ∧ V.cell? ⟨B', 0, none⟩ = some (.int .i64 s') ∧ V.cell? ⟨B', 1, none⟩ = some (.slice a' n' c') ∧
    V.frozen? ⟨B, 0, none⟩ = false ∧ V.frozen? ⟨B, 1, none⟩ = false ∧ V.frozen? ⟨B', 0, none⟩ = false ∧ V.frozen? ⟨B', 1, none⟩ = false := by
  have b1 := h1.below h
  have b2 := h2.below h
  exact ⟨h, b1.c0, b1.c1, b2.c0, b2.c1, b1.f0, b1.f1, b2.f0, b2.f1⟩
theorem one_half {p q : Int} {k : Nat} (hp : p % 2 = 0) (hq : q % 2 = 0) : one (p / 2) (q / 2) k = one p q (k + 1) := by
  have := one_scale (p / 2) (q / 2) k 1
  rw [Int.pow_one, show p / 2 * 2 = p by omega, show q / 2 * 2 = q by omega] at this
  exact this.symm
theorem one_stop {p q : Int} {k : Nat} (h0 : ¬ (p = 0 ∧ q = 0)) (h : ¬ (0 < k ∧ p % 2 = 0 ∧ q % 2 = 0)) : one p q k = if inP p = true ∧ inP q = true ∧ k ≤ 60 then ⟨p, q, (k : Int), 0⟩ else ⟨0, 0, 0, 3⟩ := by
  have hh : hv k p q = 0 := by
    cases k with
    | zero => rfl
    | succ k => unfold hv; rw [if_neg (by omega)]
  unfold one
  rw [if_neg h0, hh]
  simp
end Go.Proofs.YtalaacfoaelipaaDoor
