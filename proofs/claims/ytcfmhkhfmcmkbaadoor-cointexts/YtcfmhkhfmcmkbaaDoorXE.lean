/-
  Put together of: W7 W8 W9 Wm T0 T1 G3 G4.
-/
import Derived.Test.YtcfmhkhfmcmkbaaDoorXC
import Derived.Deep.CutRange
import Derived.Still
import Derived.WalkKit
import Derived.Test.YtcfmhkhfmcmkbaaDoorXD
namespace Go.Proofs.YtcfmhkhfmcmkbaaDoor
open Go.RowKit Go.Sort

theorem szs4 {w w2 : World} {a b c d : Obj} (h : Below ((((w.alloc a).alloc b).alloc c).alloc d).heap.size ((((w.alloc a).alloc b).alloc c).alloc d) w2) : w.heap.size + 4 ≤ w2.heap.size := by
  have := h.size; simp only [World.alloc, Array.size_push] at this; omega
theorem negative_rt (a b c : Int) (w : World) (ha : -9007199254740991 ≤ a ∧ a ≤ 9007199254740991) (hb : -9007199254740991 ≤ b ∧ b ≤ 9007199254740991) :
    Calls Tryd.prog 31 #[rv a b c] w fun e w' => e = .returned (rv (-a) (-b) c) ∧ Below w.heap.size w w' := by
  have e1 : wrap64 (-a) = -a := by unfold wrap64; omega
  have e2 : wrap64 (-b) = -b := by unfold wrap64; omega
  go_enter Tryd.func31, Tryd.ntmps31
  go_wp2
  exact bodyPost_ret (v := rv (-a) (-b) c) (by simp [*, results, Tryd.results31, go_sem]) rfl ⟨rfl, bal (bal (Below.refl w.heap.size w) _) _⟩

/-- What Make tells. -/
def makeR (p q k : Int) : Rt := if k < 0 then ⟨0, 0, 0, 2⟩ else one p q k.toNat
theorem i64_evn (p q : Int) (hp : -9223372036854775808 ≤ p ∧ p ≤ 9223372036854775807) (hq : -9223372036854775808 ≤ q ∧ q ≤ 9223372036854775807) : evn p q < 64 ∨ (p = 0 ∧ q = 0) := by
  by_cases h : p = 0 ∧ q = 0
  · exact Or.inr h
  · left
    refine evn_lt p q 64 (Nat.le_refl _) ?_
    rintro ⟨⟨c, hc⟩, ⟨d, hd⟩⟩
    have e : (2 : Int) ^ 64 = 18446744073709551616 := rfl
    rw [e] at hc hd
    omega
set_option maxHeartbeats 400000 in
theorem make_any (p q k : Int) (w : World) (hT : Tab w) (hp : -9223372036854775808 ≤ p ∧ p ≤ 9223372036854775807) (hq : -9223372036854775808 ≤ q ∧ q ≤ 9223372036854775807) (hk : k ≤ 9223372036854775807) :
    Calls Tryd.prog 61 #[.int .i64 p, .int .i64 q, .int .i64 k] w fun e w' => e = .returned (rtV (makeR p q k)) ∧ Below w.heap.size w w' := by
  unfold makeR
  by_cases h0 : k < 0
  · rw [if_pos h0]
    go_enter Tryd.func61, Tryd.ntmps61
    go_wp2
    exact bodyPost_ret (v := rtV ⟨0, 0, 0, 2⟩) (by simp [*, results, Tryd.results61, go_sem]) rfl ⟨rfl, bal (Below.refl w.heap.size w) _⟩
  · rw [if_neg h0]
    obtain ⟨K, rfl⟩ := Int.eq_ofNat_of_zero_le (show 0 ≤ k by omega)
    rw [Int.toNat_natCast]
    have H1 := fun w => wideOf_any p w hp.1 hp.2
    have H2 := fun w => wideOf_any q w hq.1 hq.2
    have H3 := fun w hT => oneForm_any p q K w hT (by unfold In128; omega) (by unfold In128; omega) (by omega) (Or.inr (i64_evn p q hp hq))
    have HT := hT.alloc (.cells #[.int .i64 0, .int .i64 0, .int .i64 0] 24)
    generalize one p q K = r at H3
    obtain ⟨rp, rq, rk, re⟩ := r
    go_enter Tryd.func61, Tryd.ntmps61
    go_wp2_with (first
      | (go_at_call 50; (with_reducible refine (H1 _).mono ?_); rintro e w1 ⟨rfl, hN⟩; (first | (replace hB := btr hB hN) | (have hB := hN)); obtain ⟨hc, hf⟩ := bcell hB)
      | (go_at_call 50; (with_reducible refine (H2 _).mono ?_); rintro e w1 ⟨rfl, hN⟩; (first | (replace hB := btr hB hN) | (have hB := hN)); obtain ⟨hc, hf⟩ := bcell hB)
      | (go_at_call 29; (refine (H3 _ (HT.below hB)).mono ?_); rintro e w1 ⟨rfl, hN⟩; replace hB := btr hB hN; obtain ⟨hc, hf⟩ := bcell hB))
    exact bodyPost_ret (v := rtV ⟨rp, rq, rk, re⟩) (by simp [*, results, Tryd.results61, go_sem]) rfl ⟨rfl, bset (bset (bset (btr (bal (Below.refl w.heap.size w) _) hB) _ _ _ (by omega)) _ _ _ (by omega)) _ _ _ (by omega)⟩

/-- The sum of two roots over the greater power: one part. -/
def sumP (a d : Int) (k c f : Nat) : Int := a * 2 ^ (k - c) + d * 2 ^ (k - f)
set_option maxHeartbeats 2000000 in
theorem sum_any (a b d e : Int) (c f k : Nat) (w : World) (hk : max (c : Int) (f : Int) = (k : Int)) (hc6 : c ≤ 60) (hf6 : f ≤ 60)
    (ha : -9007199254740991 ≤ a ∧ a ≤ 9007199254740991) (hb : -9007199254740991 ≤ b ∧ b ≤ 9007199254740991) (hd : -9007199254740991 ≤ d ∧ d ≤ 9007199254740991) (he : -9007199254740991 ≤ e ∧ e ≤ 9007199254740991) :
    Calls Tryd.prog 30 #[rv a b c, rv d e f] w fun r w' => r = .returned (.tuple #[wd (sumP a d k c f), wd (sumP b e k c f), .int .i64 k]) ∧ Below w.heap.size w w' := by
  have A1 := fun w => wideOf_any a w (by omega) (by omega)
  have A2 := fun w => wideOf_any b w (by omega) (by omega)
  have A3 := fun w => wideOf_any d w (by omega) (by omega)
  have A4 := fun w => wideOf_any e w (by omega) (by omega)
  have U1 := fun w => up_any a (k - c) w (by omega)
  have U2 := fun w => up_any b (k - c) w (by omega)
  have U3 := fun w => up_any d (k - f) w (by omega)
  have U4 := fun w => up_any e (k - f) w (by omega)
  have e1 : (k : Int) - (c : Int) = ((k - c : Nat) : Int) := by omega
  have e2 : (k : Int) - (f : Int) = ((k - f : Nat) : Int) := by omega
  have k60 : k ≤ 60 := by omega
  have kc1 : c ≤ k := by omega
  have kf1 : f ≤ k := by omega
  have i1 : IntKind.i64.wrap ((k - c : Nat) : Int) = ((k - c : Nat) : Int) := by simp [IntKind.wrap, IntKind.signed, IntKind.bits]; omega
  have i2 : IntKind.i64.wrap ((k - f : Nat) : Int) = ((k - f : Nat) : Int) := by simp [IntKind.wrap, IntKind.signed, IntKind.bits]; omega
  unfold sumP
  have P1 := fun w => plus_any (a * 2 ^ (k - c)) (d * 2 ^ (k - f)) w
  have P2 := fun w => plus_any (b * 2 ^ (k - c)) (e * 2 ^ (k - f)) w
  generalize a * 2 ^ (k - c) = a' at *
  generalize b * 2 ^ (k - c) = b' at *
  generalize d * 2 ^ (k - f) = d' at *
  generalize e * 2 ^ (k - f) = e' at *
  generalize k - c = kc at *
  generalize k - f = kf at *
  clear ha hb hd he
  have l0 : w.heap.size < w.heap.size + 1 + 1 + 1 + 1 := by omega
  have l1 : w.heap.size + 1 < w.heap.size + 1 + 1 + 1 + 1 := by omega
  have l2 : w.heap.size < w.heap.size + 1 + 1 := by omega
  have l3 : w.heap.size < w.heap.size + 1 + 1 + 1 := by omega
  have d0 : ¬ w.heap.size = w.heap.size + 1 + 1 := by omega
  have d1 : ¬ w.heap.size + 1 + 1 = w.heap.size := by omega
  have d2 : ¬ w.heap.size = w.heap.size + 1 + 1 + 1 := by omega
  have d3 : ¬ w.heap.size + 1 + 1 + 1 = w.heap.size := by omega
  have d4 : ¬ w.heap.size + 1 = w.heap.size + 1 + 1 + 1 := by omega
  have d5 : ¬ w.heap.size + 1 + 1 + 1 = w.heap.size + 1 := by omega
  have l4 : w.heap.size + 1 < w.heap.size + 1 + 1 + 1 := by omega
  go_enter Tryd.func30, Tryd.ntmps30
  go_wp2
  go_region_held3 (fun w' => w'.cell? ⟨w.heap.size, 0, none⟩ = some (.int .i64 a) ∧ w'.cell? ⟨w.heap.size, 2, none⟩ = some (.int .i64 c) ∧ w'.cell? ⟨w.heap.size + 1, 0, none⟩ = some (.int .i64 d) ∧ w'.cell? ⟨w.heap.size + 1, 2, none⟩ = some (.int .i64 f)) (go_keep)
    (first
      | (go_at_call 50; (with_reducible refine (A1 _).mono ?_); rintro e w1 ⟨rfl, hN⟩; (first | (replace hB := btr hB hN) | (have hB := hN)); obtain ⟨hc, hf⟩ := bcell hB)
      | (go_at_call 50; (with_reducible refine (A3 _).mono ?_); rintro e w1 ⟨rfl, hN⟩; (first | (replace hB := btr hB hN) | (have hB := hN)); obtain ⟨hc, hf⟩ := bcell hB)
      | (go_at_call 51; (with_reducible refine (U1 _).mono ?_); rintro e w1 ⟨rfl, hN⟩; (first | (replace hB := btr hB hN) | (have hB := hN)); obtain ⟨hc, hf⟩ := bcell hB)
      | (go_at_call 51; (with_reducible refine (U3 _).mono ?_); rintro e w1 ⟨rfl, hN⟩; (first | (replace hB := btr hB hN) | (have hB := hN)); obtain ⟨hc, hf⟩ := bcell hB)
      | (go_at_call 52; (with_reducible refine (P1 _).mono ?_); rintro e w1 ⟨rfl, hN⟩; (first | (replace hB := btr hB hN) | (have hB := hN)); obtain ⟨hc, hf⟩ := bcell hB))
  have zq := szs4 (below_of_drew hB)
  have z0 : w.heap.size < w1.heap.size := by omega
  have z1 : w.heap.size + 1 < w1.heap.size := by omega
  have z2 : w.heap.size + 1 + 1 < w1.heap.size := by omega
  have z3 : w.heap.size + 1 + 1 + 1 < w1.heap.size := by omega
  go_wp2
  go_region_held3 (fun w' => w'.cell? ⟨w.heap.size, 1, none⟩ = some (.int .i64 b) ∧ w'.cell? ⟨w.heap.size, 2, none⟩ = some (.int .i64 c) ∧ w'.cell? ⟨w.heap.size + 1, 1, none⟩ = some (.int .i64 e) ∧ w'.cell? ⟨w.heap.size + 1, 2, none⟩ = some (.int .i64 f) ∧ w'.cell? ⟨w.heap.size + 1 + 1, 0, none⟩ = some (.int .u64 (hiW (a' + d'))) ∧ w'.cell? ⟨w.heap.size + 1 + 1, 1, none⟩ = some (.int .u64 (loW (a' + d')))) (simp [*, go_sem, World.cell?_setCell_far])
    (first
      | (go_at_call 50; (with_reducible refine (A2 _).mono ?_); rintro e v1 ⟨rfl, hN⟩; (first | (replace hG := btr hG hN) | (have hG := hN)); obtain ⟨hc, hf⟩ := bcell hG)
      | (go_at_call 50; (with_reducible refine (A4 _).mono ?_); rintro e v1 ⟨rfl, hN⟩; (first | (replace hG := btr hG hN) | (have hG := hN)); obtain ⟨hc, hf⟩ := bcell hG)
      | (go_at_call 51; (with_reducible refine (U2 _).mono ?_); rintro e v1 ⟨rfl, hN⟩; (first | (replace hG := btr hG hN) | (have hG := hN)); obtain ⟨hc, hf⟩ := bcell hG)
      | (go_at_call 51; (with_reducible refine (U4 _).mono ?_); rintro e v1 ⟨rfl, hN⟩; (first | (replace hG := btr hG hN) | (have hG := hN)); obtain ⟨hc, hf⟩ := bcell hG)
      | (go_at_call 52; (with_reducible refine (P2 _).mono ?_); rintro e v1 ⟨rfl, hN⟩; (first | (replace hG := btr hG hN) | (have hG := hN)); obtain ⟨hc, hf⟩ := bcell hG))
  have yq : w1.heap.size ≤ v1.heap.size := by have := hG.size; simpa using this
  have y2 : w.heap.size + 1 + 1 < v1.heap.size := by omega
  have y3 : w.heap.size + 1 + 1 + 1 < v1.heap.size := by omega
  have q0 : ∀ o, v1.cell? ⟨w.heap.size + 1 + 1 + 1, o, none⟩ = (#[Value.int .u64 0, Value.int .u64 0])[o]? := fun o => by
    rw [(below_of_drew hG).cell (p := ⟨w.heap.size + 1 + 1 + 1, o, none⟩) (by simpa using z3), World.cell?_setCell_far _ _ _ _ (by simp), World.cell?_setCell_far _ _ _ _ (by simp), (below_of_drew hB).cell (p := ⟨w.heap.size + 1 + 1 + 1, o, none⟩) (by simp), World.cell?_alloc_at _ _ _ _ (by simp)]
  have q1 : v1.cell? ⟨w.heap.size + 1 + 1 + 1, 0, none⟩ = some (.int .u64 0) := q0 0
  have q2 : v1.cell? ⟨w.heap.size + 1 + 1 + 1, 1, none⟩ = some (.int .u64 0) := q0 1
  clear q0
  go_wp2
  go_region
  go_wp2
  have B1 := btr (bal (bal (bal (bal (Below.refl w.heap.size w) _) _) _) _) (below_of_drew hB)
  have B2 := btr (bset (bset B1 (w.heap.size + 1 + 1) 0 _ (by omega)) (w.heap.size + 1 + 1) 1 _ (by omega)) (below_of_drew hG)
  exact bodyPost_ret (v := .tuple #[wd (a' + d'), wd (b' + e'), .int .i64 k]) (by simp (maxDischargeDepth := 9) [*, results, Tryd.results30, go_sem]) rfl ⟨rfl, below_drew (bset (bset (bset (bset (bset (bset B2 _ _ _ (by omega)) _ _ _ (by omega)) _ _ _ (by omega)) _ _ _ (by omega)) _ _ _ (by omega)) _ _ _ (by omega))⟩
end Go.Proofs.YtcfmhkhfmcmkbaaDoor
namespace Go.Proofs.YtcfmhkhfmcmkbaaDoor
open Go.RowKit Go.Sort

def decRoot (p q k : Int) : Decidable (isRoot p q k) := by
  unfold isRoot
  exact inferInstance
/-- What Add tells of two roots. -/
def addR (a b c d e f : Int) : Rt :=
  haveI := decRoot a b c
  haveI := decRoot d e f
  if isRoot a b c ∧ isRoot d e f then one (sumP a d (max c.toNat f.toNat) c.toNat f.toNat) (sumP b e (max c.toNat f.toNat) c.toNat f.toNat) (max c.toNat f.toNat) else ⟨0, 0, 0, 2⟩
def mulR (a b c d e f : Int) : Rt :=
  haveI := decRoot a b c
  haveI := decRoot d e f
  if isRoot a b c ∧ isRoot d e f then one (a * d + b * e * 2) (a * e + b * d) (c + f).toNat else ⟨0, 0, 0, 2⟩

theorem sum_in (a d : Int) (k c f : Nat) (hk : k ≤ 60) (ha : -9007199254740991 ≤ a ∧ a ≤ 9007199254740991) (hd : -9007199254740991 ≤ d ∧ d ≤ 9007199254740991) : In128 (sumP a d k c f) := by
  have p : ∀ n : Nat, n ≤ 60 → (2 : Int) ^ n ≤ 1152921504606846976 := fun n hn => by
    have : (2 : Nat) ^ n ≤ 2 ^ 60 := Nat.pow_le_pow_right (by omega) hn
    have h2 : ((2 ^ n : Nat) : Int) = 2 ^ n := by simp
    have h3 : (2 : Nat) ^ 60 = 1152921504606846976 := rfl
    rw [← h2]; omega
  have m : ∀ (x : Int) (n : Nat), n ≤ 60 → -9007199254740991 ≤ x ∧ x ≤ 9007199254740991 → -10384593717069654320312270131228016 ≤ x * 2 ^ n ∧ x * 2 ^ n ≤ 10384593717069654320312270131228016 := fun x n hn hx => by
    have h1 := p n hn
    have h0 := pow_pos' n
    generalize (2 : Int) ^ n = t at *
    have u1 := Int.mul_le_mul hx.2 h1 (by omega) (by omega)
    have u2 := Int.mul_le_mul (show -x ≤ 9007199254740991 by omega) h1 (by omega) (by omega)
    rw [Int.neg_mul] at u2
    omega
  have h1 := m a (k - c) (by omega) ha
  have h2 := m d (k - f) (by omega) hd
  unfold In128 sumP
  omega
theorem mul_in (a d : Int) (ha : -9007199254740991 ≤ a ∧ a ≤ 9007199254740991) (hd : -9007199254740991 ≤ d ∧ d ≤ 9007199254740991) : -81129638414606663681390495662081 ≤ a * d ∧ a * d ≤ 81129638414606663681390495662081 := by
  have key : ∀ x y : Int, 0 ≤ x → x ≤ 9007199254740991 → 0 ≤ y → y ≤ 9007199254740991 → 0 ≤ x * y ∧ x * y ≤ 81129638414606663681390495662081 := fun x y x0 x1 y0 y1 =>
    ⟨Int.mul_nonneg x0 y0, Int.mul_le_mul x1 y1 y0 (by omega)⟩
  by_cases h1 : 0 ≤ a <;> by_cases h2 : 0 ≤ d
  · have := key a d h1 ha.2 h2 hd.2; omega
  · have := key a (-d) h1 ha.2 (by omega) (by omega); rw [Int.mul_neg] at this; omega
  · have := key (-a) d (by omega) (by omega) h2 hd.2; rw [Int.neg_mul] at this; omega
  · have := key (-a) (-d) (by omega) (by omega) (by omega) (by omega); rw [Int.neg_mul_neg] at this; omega

end Go.Proofs.YtcfmhkhfmcmkbaaDoor
namespace Go.Proofs.YtcfmhkhfmcmkbaaDoor
open Go.RowKit Go.Sort

/-- What Sub tells of two roots. -/
def subR (a b c d e f : Int) : Rt :=
  haveI := decRoot a b c
  haveI := decRoot d e f
  if isRoot a b c ∧ isRoot d e f then one (sumP a (-d) (max c.toNat f.toNat) c.toNat f.toNat) (sumP b (-e) (max c.toNat f.toNat) c.toNat f.toNat) (max c.toNat f.toNat) else ⟨0, 0, 0, 2⟩

set_option maxHeartbeats 1000000 in
theorem sub_any (a b c d e f : Int) (w : World) (hT : Tab w) :
    Calls Tryd.prog 18 #[rv a b c, rv d e f] w fun r w' => r = .returned (rtV (subR a b c d e f)) ∧ Below w.heap.size w w' := by
  unfold subR
  have HT := ((hT.alloc (.cells #[.int .i64 a, .int .i64 b, .int .i64 c] 24)).alloc (.cells #[.int .i64 d, .int .i64 e, .int .i64 f] 24)).alloc (.cells #[.int .i64 0, .int .i64 0, .int .i64 0] 24)
  by_cases h : isRoot a b c ∧ isRoot d e f
  · rw [if_pos h]
    have C := fun w => both_yes a b c d e f w h.1 h.2
    obtain ⟨⟨ha, hb, hc', _⟩, ⟨hd, he, hf', _⟩⟩ := h
    obtain ⟨c, rfl⟩ := Int.eq_ofNat_of_zero_le hc'.1
    obtain ⟨f, rfl⟩ := Int.eq_ofNat_of_zero_le hf'.1
    rw [Int.toNat_natCast, Int.toNat_natCast]
    have NE := fun w => negative_rt d e f w hd he
    have SU := fun w => sum_any a b (-d) (-e) c f (max c f) w (by omega) (by omega) (by omega) ha hb (by omega) (by omega)
    have ON := fun w hT => oneForm_any (sumP a (-d) (max c f) c f) (sumP b (-e) (max c f) c f) (max c f) w hT (sum_in a (-d) _ c f (by omega) ha (by omega)) (sum_in b (-e) _ c f (by omega) hb (by omega)) (by omega) (Or.inl (by omega))
    generalize one (sumP a (-d) (max c f) c f) (sumP b (-e) (max c f) c f) (max c f) = r at *
    generalize sumP a (-d) (max c f) c f = p at *
    generalize sumP b (-e) (max c f) c f = q at *
    generalize max c f = k at *
    generalize -d = d' at *
    generalize -e = e' at *
    obtain ⟨rp, rq, rk, re⟩ := r
    clear ha hb hd he hc' hf'
    have l0 : w.heap.size < w.heap.size + 1 + 1 + 1 := by omega
    have l1 : w.heap.size + 1 < w.heap.size + 1 + 1 + 1 := by omega
    have l2 : w.heap.size < w.heap.size + 1 + 1 := by omega
    have d0 : ¬ w.heap.size = w.heap.size + 1 + 1 := by omega
    have d1 : ¬ w.heap.size + 1 + 1 = w.heap.size := by omega
    go_enter Tryd.func18, Tryd.ntmps18
    go_wp2_with (first
      | (go_at_call 28; (with_reducible refine (C _).mono ?_); rintro e w1 ⟨rfl, hB⟩; obtain ⟨hc, hf⟩ := bcell hB))
    go_region_held3 (fun w' => w'.cell? ⟨w.heap.size, 0, none⟩ = some (.int .i64 a) ∧ w'.cell? ⟨w.heap.size, 1, none⟩ = some (.int .i64 b) ∧ w'.cell? ⟨w.heap.size, 2, none⟩ = some (.int .i64 c) ∧ w'.cell? ⟨w.heap.size + 1, 0, none⟩ = some (.int .i64 d) ∧ w'.cell? ⟨w.heap.size + 1, 1, none⟩ = some (.int .i64 e) ∧ w'.cell? ⟨w.heap.size + 1, 2, none⟩ = some (.int .i64 f)) (simp [*, go_sem, World.cell?_setCell_far])
      (first
        | (go_at_call 31; (with_reducible refine (NE _).mono ?_); rintro e w2 ⟨rfl, hN⟩; replace hB := btr hB (below_of_drew hN); obtain ⟨hc, hf⟩ := bcell hB)
        | (go_at_call 30; (with_reducible refine (SU _).mono ?_); rintro e w2 ⟨rfl, hN⟩; replace hB := btr hB hN; obtain ⟨hc, hf⟩ := bcell hB; unfold wd)
        | (go_at_call 29; (refine (ON _ (HT.below hB)).mono ?_); rintro e w3 ⟨rfl, hN⟩; replace hB := btr hB hN; obtain ⟨hc, hf⟩ := bcell hB))
    go_wp2
    exact bodyPost_ret (v := rtV ⟨rp, rq, rk, re⟩) (by simp [*, results, Tryd.results18, go_sem]) rfl ⟨rfl, bset (bset (bset (btr (bal (bal (bal (Below.refl w.heap.size w) _) _) _) hB) _ _ _ (by omega)) _ _ _ (by omega)) _ _ _ (by omega)⟩
  · rw [if_neg h]
    have C := fun w => both_no a b c d e f w h
    clear h
    go_enter Tryd.func18, Tryd.ntmps18
    go_wp2_with (first
      | (go_at_call 28; (with_reducible refine (C _).mono ?_); rintro e w1 ⟨rfl, hB⟩; obtain ⟨hc, hf⟩ := bcell hB))
    exact bodyPost_ret (v := rtV ⟨0, 0, 0, 2⟩) (by simp [*, results, Tryd.results18, go_sem]) rfl ⟨rfl, bset (bset (bset (btr (bal (bal (bal (Below.refl w.heap.size w) _) _) _) hB) _ _ _ (by omega)) _ _ _ (by omega)) _ _ _ (by omega)⟩
end Go.Proofs.YtcfmhkhfmcmkbaaDoor
namespace Go.Proofs.YtcfmhkhfmcmkbaaDoor
open Go.RowKit Go.Sort

theorem odd_mul {a b : Int} (ha : a % 2 = 1) (hb : b % 2 = 1) : (a * b) % 2 = 1 := by rw [Int.mul_emod, ha, hb]; rfl
theorem even_mul {a b : Int} (ha : a % 2 = 0) : (a * b) % 2 = 0 := by rw [Int.mul_emod, ha, Int.zero_mul]; rfl
theorem mul_even {a b : Int} (hb : b % 2 = 0) : (a * b) % 2 = 0 := by rw [Int.mul_comm]; exact even_mul hb
theorem even_even {a b : Int} (ha : a % 2 = 0) (hb : b % 2 = 0) : (a * b) % 4 = 0 := by
  have h1 : a = 2 * (a / 2) := by omega
  have h2 : b = 2 * (b / 2) := by omega
  rw [h1, h2, Int.mul_assoc, Int.mul_left_comm (a / 2) 2 (b / 2)]
  omega
/-- A product of two that aren't even is halved once at most. -/
theorem mul_halves (a b d e : Int) (h1 : a % 2 = 1 ∨ b % 2 = 1) (h2 : d % 2 = 1 ∨ e % 2 = 1) : ¬ ((2 : Int) ^ 2 ∣ a * d + b * e * 2 ∧ (2 : Int) ^ 2 ∣ a * e + b * d) := by
  rintro ⟨⟨x, hx⟩, ⟨y, hy⟩⟩
  have e4 : (2 : Int) ^ 2 = 4 := rfl
  rw [e4] at hx hy
  rcases (show a % 2 = 0 ∨ a % 2 = 1 by omega) with ha | ha <;> rcases (show d % 2 = 0 ∨ d % 2 = 1 by omega) with hd | hd
  · have p1 := even_even ha hd
    have p2 := odd_mul (show b % 2 = 1 by omega) (show e % 2 = 1 by omega)
    omega
  · have p1 := even_mul (b := e) ha
    have p2 := odd_mul (show b % 2 = 1 by omega) hd
    omega
  · have p1 := odd_mul ha (show e % 2 = 1 by omega)
    have p2 := mul_even (a := b) hd
    omega
  · have p1 := odd_mul ha hd
    omega
theorem mul_evn (a b c d e f : Int) (h1 : isRoot a b c) (h2 : isRoot d e f) : (c + f).toNat ≤ 64 ∨ evn (a * d + b * e * 2) (a * e + b * d) < 64 ∨ (a * d + b * e * 2 = 0 ∧ a * e + b * d = 0) := by
  obtain ⟨_, _, hc, ho⟩ := h1
  obtain ⟨_, _, hf, hp⟩ := h2
  by_cases hcf : c = 0 ∨ f = 0
  · left; omega
  · right; left
    exact evn_lt _ _ 2 (by omega) (mul_halves a b d e (by omega) (by omega))

theorem up1_any (a : Int) (w : World) : Calls Tryd.prog 51 #[wd a, .int .i64 1] w fun e w' => e = .returned (wd (a * 2)) ∧ Below w.heap.size w w' := by
  have := up_any a 1 w (by omega)
  simpa using this

theorem alz (w : World) (o : Obj) : (w.alloc o).heap.size = w.heap.size + 1 := by simp only [World.alloc, Array.size_push]
/-- The two roots' cells, in a world behind W0. -/
theorem keep6 {w W : World} {a b c d e f : Int} {o : Obj} (h : Below (((w.alloc (.cells #[.int .i64 a, .int .i64 b, .int .i64 c] 24)).alloc (.cells #[.int .i64 d, .int .i64 e, .int .i64 f] 24)).alloc o).heap.size (((w.alloc (.cells #[.int .i64 a, .int .i64 b, .int .i64 c] 24)).alloc (.cells #[.int .i64 d, .int .i64 e, .int .i64 f] 24)).alloc o) W) :
    Below (((w.alloc (.cells #[.int .i64 a, .int .i64 b, .int .i64 c] 24)).alloc (.cells #[.int .i64 d, .int .i64 e, .int .i64 f] 24)).alloc o).heap.size (((w.alloc (.cells #[.int .i64 a, .int .i64 b, .int .i64 c] 24)).alloc (.cells #[.int .i64 d, .int .i64 e, .int .i64 f] 24)).alloc o) W ∧
    W.cell? ⟨w.heap.size, 0, none⟩ = some (.int .i64 a) ∧ W.cell? ⟨w.heap.size, 1, none⟩ = some (.int .i64 b) ∧ W.cell? ⟨w.heap.size, 2, none⟩ = some (.int .i64 c) ∧ W.cell? ⟨w.heap.size + 1, 0, none⟩ = some (.int .i64 d) ∧ W.cell? ⟨w.heap.size + 1, 1, none⟩ = some (.int .i64 e) ∧ W.cell? ⟨w.heap.size + 1, 2, none⟩ = some (.int .i64 f) := by
  have hs : (((w.alloc (.cells #[.int .i64 a, .int .i64 b, .int .i64 c] 24)).alloc (.cells #[.int .i64 d, .int .i64 e, .int .i64 f] 24)).alloc o).heap.size = w.heap.size + 3 := by rw [alz, alz, alz]
  have k0 : ∀ i, W.cell? ⟨w.heap.size, i, none⟩ = (#[Value.int .i64 a, .int .i64 b, .int .i64 c])[i]? := fun i => by
    rw [h.cell (p := ⟨w.heap.size, i, none⟩) (by rw [hs]; show w.heap.size < _; omega), World.cell?_alloc_past _ _ _ (by rw [alz, alz]; omega), World.cell?_alloc_past _ _ _ (by rw [alz]; omega), World.cell?_alloc_at _ _ _ _ rfl]
  have k1 : ∀ i, W.cell? ⟨w.heap.size + 1, i, none⟩ = (#[Value.int .i64 d, .int .i64 e, .int .i64 f])[i]? := fun i => by
    rw [h.cell (p := ⟨w.heap.size + 1, i, none⟩) (by rw [hs]; show w.heap.size + 1 < _; omega), World.cell?_alloc_past _ _ _ (by rw [alz, alz]; omega), World.cell?_alloc_at _ _ _ _ (by rw [alz])]
  exact ⟨h, k0 0, k0 1, k0 2, k1 0, k1 1, k1 2⟩
theorem keep6b {w wc W : World} {a b c d e f : Int} {o : Obj} (h0 : Below (((w.alloc (.cells #[.int .i64 a, .int .i64 b, .int .i64 c] 24)).alloc (.cells #[.int .i64 d, .int .i64 e, .int .i64 f] 24)).alloc o).heap.size (((w.alloc (.cells #[.int .i64 a, .int .i64 b, .int .i64 c] 24)).alloc (.cells #[.int .i64 d, .int .i64 e, .int .i64 f] 24)).alloc o) wc) (h : Below wc.heap.size wc W) :
    Below wc.heap.size wc W ∧ W.cell? ⟨w.heap.size, 0, none⟩ = some (.int .i64 a) ∧ W.cell? ⟨w.heap.size, 1, none⟩ = some (.int .i64 b) ∧ W.cell? ⟨w.heap.size, 2, none⟩ = some (.int .i64 c) ∧ W.cell? ⟨w.heap.size + 1, 0, none⟩ = some (.int .i64 d) ∧ W.cell? ⟨w.heap.size + 1, 1, none⟩ = some (.int .i64 e) ∧ W.cell? ⟨w.heap.size + 1, 2, none⟩ = some (.int .i64 f) := ⟨h, (keep6 (btr h0 h)).2⟩
/-- The result's cells too. -/
theorem keep3 {w W : World} {a b c d e f : Int} (h : Below (((w.alloc (.cells #[.int .i64 a, .int .i64 b, .int .i64 c] 24)).alloc (.cells #[.int .i64 d, .int .i64 e, .int .i64 f] 24)).alloc (.cells #[.int .i64 0, .int .i64 0, .int .i64 0] 24)).heap.size (((w.alloc (.cells #[.int .i64 a, .int .i64 b, .int .i64 c] 24)).alloc (.cells #[.int .i64 d, .int .i64 e, .int .i64 f] 24)).alloc (.cells #[.int .i64 0, .int .i64 0, .int .i64 0] 24)) W) :
    (W.cell? ⟨w.heap.size + 1 + 1, 0, none⟩ = some (.int .i64 0) ∧ W.cell? ⟨w.heap.size + 1 + 1, 1, none⟩ = some (.int .i64 0) ∧ W.cell? ⟨w.heap.size + 1 + 1, 2, none⟩ = some (.int .i64 0)) ∧ ∀ i, W.frozen? ⟨w.heap.size + 1 + 1, i, none⟩ = false := by
  have hs : (((w.alloc (.cells #[.int .i64 a, .int .i64 b, .int .i64 c] 24)).alloc (.cells #[.int .i64 d, .int .i64 e, .int .i64 f] 24)).alloc (.cells #[.int .i64 0, .int .i64 0, .int .i64 0] 24)).heap.size = w.heap.size + 3 := by rw [alz, alz, alz]
  have k0 : ∀ i, W.cell? ⟨w.heap.size + 1 + 1, i, none⟩ = (#[Value.int .i64 0, .int .i64 0, .int .i64 0])[i]? := fun i => by
    rw [h.cell (p := ⟨w.heap.size + 1 + 1, i, none⟩) (by rw [hs]; show w.heap.size + 1 + 1 < _; omega), World.cell?_alloc_at _ _ _ _ (by rw [alz, alz])]
  refine ⟨⟨k0 0, k0 1, k0 2⟩, fun i => ?_⟩
  rw [h.frozen (p := ⟨w.heap.size + 1 + 1, i, none⟩) (by rw [hs]; show w.heap.size + 1 + 1 < _; omega), World.frozen?_alloc_at _ _ _ _ (by rw [alz, alz])]
theorem bdr {a w : World} (h : Below a.heap.size a w.drew) (o : Obj) : Below a.heap.size a (w.alloc o).drew := ⟨h.os, h.tape, h.output, Nat.le_trans h.size (by show w.heap.size ≤ (w.heap.push o).size; simp), fun k hk => by
  rw [← h.block k hk]
  show (w.heap.push o)[k]? = w.heap[k]?
  have hw : k < w.heap.size := Nat.lt_of_lt_of_le hk h.size
  simp [Array.getElem?_push, Nat.ne_of_lt hw]⟩
end Go.Proofs.YtcfmhkhfmcmkbaaDoor
namespace Go.Proofs.YtcfmhkhfmcmkbaaDoor
open Go.RowKit

theorem count_set_true : ∀ (bs : List Bool) (i : Nat), bs[i]? = some false → (bs.set i true).count false + 1 = bs.count false
  | [], i, h => by simp at h
  | b :: bs, 0, h => by
    simp at h; subst h; simp
  | b :: bs, i + 1, h => by
    have := count_set_true bs i (by simpa using h)
    cases b <;> simp <;> omega
theorem wp_region_inv {P : Program} {id : Nat} {Q : Exit → Act → World → Prop} {a : Act} {w : World} {l : List Oper} (hm : P.follows .mixedOrders = true)
    (I : List Bool → Act → World → Prop) (h0 : I (List.replicate l.length false) a { w with drawn := w.drawn + 1 })
    (hs : ∀ (bs : List Bool) (a : Act) (w : World) (i : Nat), bs.length = l.length → I bs a w → i ∈ Region.ready .any l.toArray bs.toArray → wpOp P l.toArray Q i (I (bs.set i true)) a w)
    (he : ∀ (bs : List Bool) (a : Act) (w : World), bs.length = l.length → I bs a w → Region.ready .any l.toArray bs.toArray = [] → Q .normal a w) : (Code.region id l.toArray true).wp P Q a w := by
  have key : ∀ (fuel : Nat) (bs : List Bool) (a : Act) (w : World), bs.length = l.length → bs.count false ≤ fuel → I bs a w → wpAny P .any l.toArray Q fuel bs.toArray a w := by
    intro fuel
    induction fuel with
    | zero =>
      intro bs a w hl hc hI
      have hr : Region.ready .any l.toArray bs.toArray = [] := by
        cases h : Region.ready .any l.toArray bs.toArray with
        | nil => rfl
        | cons i rest =>
          have hi : i ∈ Region.ready .any l.toArray bs.toArray := by rw [h]; simp
          have h1 := (mem_ready.1 hi).1
          have h2 : bs[i]? = some false := by
            rcases Nat.lt_or_ge i bs.length with h' | h'
            · simp [h'] at h1; simp [h', h1]
            · simp [h'] at h1
          have := count_set_true bs i h2
          omega
      exact ⟨hr, he bs a w hl hI hr⟩
    | succ fuel ih =>
      intro bs a w hl hc hI
      refine ⟨fun h => he bs a w hl hI h, fun i hi => ?_⟩
      have h1 := (mem_ready.1 hi).1
      have h2 : bs[i]? = some false := by
        rcases Nat.lt_or_ge i bs.length with h' | h'
        · simp [h'] at h1; simp [h', h1]
        · simp [h'] at h1
      have h3 := count_set_true bs i h2
      have e : bs.toArray.setIfInBounds i true = (bs.set i true).toArray := by simp
      rw [e]
      exact wpOp_mono (fun a' w' h => ih (bs.set i true) a' w' (by simpa using hl) (by omega) h) (hs bs a w i hl hI hi)
  refine wp_region_any hm ?_
  have := key l.length (List.replicate l.length false) a _ (by simp) (by simp) h0
  simpa using this
end Go.Proofs.YtcfmhkhfmcmkbaaDoor
namespace Go.Proofs.YtcfmhkhfmcmkbaaDoor
open Go.RowKit Go.Sort

/-- A block of four cells, from n on, that may be written. -/
structure Own (n : Nat) (W : World) (B : Nat) : Prop where
  ge : n ≤ B
  c0 : (W.cell? ⟨B, 0, none⟩).isSome = true
  c1 : (W.cell? ⟨B, 1, none⟩).isSome = true
  c2 : (W.cell? ⟨B, 2, none⟩).isSome = true
  c3 : (W.cell? ⟨B, 3, none⟩).isSome = true
  fz : ∀ i, W.frozen? ⟨B, i, none⟩ = false
theorem Own.lt {n : Nat} {W : World} {B : Nat} (h : Own n W B) : B < W.heap.size := by
  obtain ⟨v, hv⟩ := Option.isSome_iff_exists.1 h.c0
  exact block_lt_of_cell hv
/-- The block holds the words of v. -/
structure Wds (W : World) (B : Nat) (v : Int) : Prop where
  c0 : W.cell? ⟨B, 0, none⟩ = some (.int .u64 (q3 v))
  c1 : W.cell? ⟨B, 1, none⟩ = some (.int .u64 (q2 v))
  c2 : W.cell? ⟨B, 2, none⟩ = some (.int .u64 (q1 v))
  c3 : W.cell? ⟨B, 3, none⟩ = some (.int .u64 (q0 v))
theorem Wds.lt {W : World} {B : Nat} {v : Int} (h : Wds W B v) : B < W.heap.size := block_lt_of_cell h.c0
theorem Own.below {n : Nat} {W W' : World} {B : Nat} (h : Own n W B) (hb : Below W.heap.size W W') : Own n W' B := by
  obtain ⟨hc, hf⟩ := bcell hb
  have hl := h.lt
  exact ⟨h.ge, by rw [hc _ _ hl]; exact h.c0, by rw [hc _ _ hl]; exact h.c1, by rw [hc _ _ hl]; exact h.c2, by rw [hc _ _ hl]; exact h.c3, fun i => by rw [hf _ _ hl]; exact h.fz i⟩
theorem Wds.below {W W' : World} {B : Nat} {v : Int} (h : Wds W B v) (hb : Below W.heap.size W W') : Wds W' B v := by
  obtain ⟨hc, hf⟩ := bcell hb
  have hl := h.lt
  exact ⟨(hc _ _ hl).trans h.c0, (hc _ _ hl).trans h.c1, (hc _ _ hl).trans h.c2, (hc _ _ hl).trans h.c3⟩
theorem Own.new {n : Nat} {W : World} (z0 z1 z2 z3 : Value) (t : TypeId) (h : n ≤ W.heap.size) : Own n (W.alloc (.cells #[z0, z1, z2, z3] t)) W.heap.size where
  ge := h
  c0 := by rw [World.cell?_alloc_at _ _ _ _ rfl]; rfl
  c1 := by rw [World.cell?_alloc_at _ _ _ _ rfl]; rfl
  c2 := by rw [World.cell?_alloc_at _ _ _ _ rfl]; rfl
  c3 := by rw [World.cell?_alloc_at _ _ _ _ rfl]; rfl
  fz := fun i => World.frozen?_alloc_at _ _ _ _ rfl
/-- The words of v, stored into block B. -/
def st4 (W : World) (B : Nat) (v : Int) : World :=
  (((W.setCell ⟨B, 0, none⟩ (.int .u64 (q3 v))).setCell ⟨B, 1, none⟩ (.int .u64 (q2 v))).setCell ⟨B, 2, none⟩ (.int .u64 (q1 v))).setCell ⟨B, 3, none⟩ (.int .u64 (q0 v))
theorem st4_far {W : World} {B C : Nat} {v : Int} (h : B ≠ C) (i : Nat) : (st4 W B v).cell? ⟨C, i, none⟩ = W.cell? ⟨C, i, none⟩ := by
  unfold st4
  rw [World.cell?_setCell_far _ _ _ _ h, World.cell?_setCell_far _ _ _ _ h, World.cell?_setCell_far _ _ _ _ h, World.cell?_setCell_far _ _ _ _ h]
theorem off_ne {B i j : Nat} (h : i ≠ j) : (⟨B, i, none⟩ : Addr) ≠ ⟨B, j, none⟩ := fun e => h (by injection e)
theorem sco (w : World) (B i j : Nat) (v : Value) (h : i ≠ j) : (w.setCell ⟨B, i, none⟩ v).cell? ⟨B, j, none⟩ = w.cell? ⟨B, j, none⟩ := World.cell?_setCell_other _ _ _ _ (off_ne h)
theorem st4_same {n : Nat} {W : World} {B : Nat} (v : Int) (h : Own n W B) : Wds (st4 W B v) B v := by
  have h0 := h.c0; have h1 := h.c1; have h2 := h.c2; have h3 := h.c3
  unfold st4
  constructor
  · rw [sco _ _ 3 0 _ (by decide), sco _ _ 2 0 _ (by decide), sco _ _ 1 0 _ (by decide), World.cell?_setCell_same' _ _ _ h0]
  · rw [sco _ _ 3 1 _ (by decide), sco _ _ 2 1 _ (by decide), World.cell?_setCell_same' _ _ _ (by rw [sco _ _ 0 1 _ (by decide)]; exact h1)]
  · rw [sco _ _ 3 2 _ (by decide), World.cell?_setCell_same' _ _ _ (by rw [sco _ _ 1 2 _ (by decide), sco _ _ 0 2 _ (by decide)]; exact h2)]
  · rw [World.cell?_setCell_same' _ _ _ (by rw [sco _ _ 2 3 _ (by decide), sco _ _ 1 3 _ (by decide), sco _ _ 0 3 _ (by decide)]; exact h3)]
theorem Own.st {n : Nat} {W : World} {B C : Nat} {v : Int} (hB : Own n W B) (h : Own n W C) : Own n (st4 W B v) C := by
  have hf : ∀ i, (st4 W B v).frozen? ⟨C, i, none⟩ = false := fun i => by unfold st4; simp; exact h.fz i
  by_cases e : B = C
  · subst e
    have s := st4_same v hB
    exact ⟨h.ge, by rw [s.c0]; rfl, by rw [s.c1]; rfl, by rw [s.c2]; rfl, by rw [s.c3]; rfl, hf⟩
  · exact ⟨h.ge, by rw [st4_far e]; exact h.c0, by rw [st4_far e]; exact h.c1, by rw [st4_far e]; exact h.c2, by rw [st4_far e]; exact h.c3, hf⟩
theorem Wds.st {W : World} {B C : Nat} {u v : Int} (e : B ≠ C) (h : Wds W C u) : Wds (st4 W B v) C u :=
  ⟨(st4_far e _).trans h.c0, (st4_far e _).trans h.c1, (st4_far e _).trans h.c2, (st4_far e _).trans h.c3⟩
theorem below_st {a W : World} {B : Nat} {v : Int} (h : Below a.heap.size a W) (hB : a.heap.size ≤ B) : Below a.heap.size a (st4 W B v) :=
  bset (bset (bset (bset h _ _ _ hB) _ _ _ hB) _ _ _ hB) _ _ _ hB
end Go.Proofs.YtcfmhkhfmcmkbaaDoor
namespace Go.Proofs.YtcfmhkhfmcmkbaaDoor
open Go.RowKit Go.Sort

theorem keep4 {w W : World} {p q : Int} (h : Below ((w.alloc (.cells #[.int .u64 (hiW p), .int .u64 (loW p)] 67)).alloc (.cells #[.int .u64 (hiW q), .int .u64 (loW q)] 67)).heap.size ((w.alloc (.cells #[.int .u64 (hiW p), .int .u64 (loW p)] 67)).alloc (.cells #[.int .u64 (hiW q), .int .u64 (loW q)] 67)) W) : Below ((w.alloc (.cells #[.int .u64 (hiW p), .int .u64 (loW p)] 67)).alloc (.cells #[.int .u64 (hiW q), .int .u64 (loW q)] 67)).heap.size ((w.alloc (.cells #[.int .u64 (hiW p), .int .u64 (loW p)] 67)).alloc (.cells #[.int .u64 (hiW q), .int .u64 (loW q)] 67)) W ∧ W.cell? ⟨w.heap.size, 0, none⟩ = some (.int .u64 (hiW p)) ∧ W.cell? ⟨w.heap.size, 1, none⟩ = some (.int .u64 (loW p)) ∧ W.cell? ⟨w.heap.size + 1, 0, none⟩ = some (.int .u64 (hiW q)) ∧ W.cell? ⟨w.heap.size + 1, 1, none⟩ = some (.int .u64 (loW q)) := by
  have hs : ((w.alloc (.cells #[.int .u64 (hiW p), .int .u64 (loW p)] 67)).alloc (.cells #[.int .u64 (hiW q), .int .u64 (loW q)] 67)).heap.size = w.heap.size + 2 := by rw [alz, alz]
  have k0 : ∀ i, W.cell? ⟨w.heap.size, i, none⟩ = (#[Value.int .u64 (hiW p), .int .u64 (loW p)])[i]? := fun i => by
    rw [h.cell (p := ⟨w.heap.size, i, none⟩) (by rw [hs]; show w.heap.size < _; omega), World.cell?_alloc_past _ _ _ (by rw [alz]; omega), World.cell?_alloc_at _ _ _ _ rfl]
  have k1 : ∀ i, W.cell? ⟨w.heap.size + 1, i, none⟩ = (#[Value.int .u64 (hiW q), .int .u64 (loW q)])[i]? := fun i => by
    rw [h.cell (p := ⟨w.heap.size + 1, i, none⟩) (by rw [hs]; show w.heap.size + 1 < _; omega), World.cell?_alloc_at _ _ _ _ (by rw [alz])]
  exact ⟨h, k0 0, k0 1, k1 0, k1 1⟩

theorem wpOp_one {P : Program} {ops : Array Oper} {Q : Exit → Act → World → Prop} {i : Nat} {K : Act → World → Prop} {a : Act} {w : World} {o : Oper} (ho : ops[i]? = some o) (hg : o.guard = none) (h : o.wp P a w K Q) : wpOp P ops Q i K a w := by
  unfold wpOp
  simp only [ho]
  rw [if_pos (by unfold Region.wanted; rw [hg])]
  exact .inl h
theorem dep_of {ops : Array Oper} {bs : List Bool} {i : Nat} {o o' : Oper} (ho : ops[i]? = some o) (hdep : ∀ e ∈ o.after, Region.binds .any e = true → bs.toArray.getD e.on false = true)
    (h' : ops[i]? = some o') (k : Nat) (e : Edge) (he : o'.after[k]? = some e) (hb : Region.binds .any e = true) : bs.toArray.getD e.on false = true := by
  obtain rfl : o = o' := Option.some.inj (ho.symm.trans h')
  exact hdep e (Array.mem_of_getElem? he) hb
theorem rdy {ops : Array Oper} {bs : List Bool} {i : Nat} {o : Oper} (hr : Region.ready .any ops bs.toArray = []) (ho : ops[i]? = some o) (hu : bs.toArray.getD i true = false)
    (hd : ∀ e ∈ o.after, bs.toArray.getD e.on false = true) : False := by
  have : i ∈ Region.ready .any ops bs.toArray := mem_ready.2 ⟨hu, o, ho, fun e he _ => hd e he⟩
  rw [hr] at this
  cases this
theorem Wds.drewN {W : World} {B : Nat} {v : Int} (h : Wds W B v) (n : Nat) : Wds (W.drewN n) B v := ⟨by simpa using h.c0, by simpa using h.c1, by simpa using h.c2, by simpa using h.c3⟩
theorem szA {w w2 : World} {a : Obj} (h : Below (w.alloc a).heap.size (w.alloc a) w2) : w.heap.size < w2.heap.size ∧ w.heap.size ≤ w2.heap.size := by
  have := h.size; rw [alz] at this; omega
theorem szD {w w2 : World} {a : Obj} (h : Below (w.alloc a).drew.heap.size (w.alloc a).drew w2) : w.heap.size < w2.heap.size ∧ w.heap.size ≤ w2.heap.size := by
  have : (w.alloc a).heap.size ≤ w2.heap.size := h.size
  rw [alz] at this; omega
theorem szAA {w w2 : World} {a b : Obj} (h : Below ((w.alloc a).alloc b).heap.size ((w.alloc a).alloc b) w2) : w.heap.size < w2.heap.size ∧ w.heap.size ≤ w2.heap.size ∧ w.heap.size + 1 < w2.heap.size ∧ w.heap.size + 1 ≤ w2.heap.size := by
  have := h.size; rw [alz, alz] at this; omega
theorem szDD {w w2 : World} {a b : Obj} (h : Below ((w.alloc a).alloc b).drew.heap.size ((w.alloc a).alloc b).drew w2) : w.heap.size < w2.heap.size ∧ w.heap.size ≤ w2.heap.size ∧ w.heap.size + 1 < w2.heap.size ∧ w.heap.size + 1 ≤ w2.heap.size := by
  have : ((w.alloc a).alloc b).heap.size ≤ w2.heap.size := h.size
  rw [alz, alz] at this; omega
set_option maxHeartbeats 4000000 in
theorem signOf_core (p q x y u v s t c : Int) (w : World) (hst : ¬ s = t) (r : Int) (hr : (0 < c ∧ r = s) ∨ (¬ 0 < c ∧ r = t))
    (S1 : ∀ w, Calls Tryd.prog 45 #[wd p] w fun e w' => e = .returned (.int .i64 s) ∧ Below w.heap.size w w')
    (S2 : ∀ w, Calls Tryd.prog 45 #[wd q] w fun e w' => e = .returned (.int .i64 t) ∧ Below w.heap.size w w')
    (Z1 : ∀ w, Calls Tryd.prog 95 #[wd p] w fun e w' => e = .returned (wd x) ∧ Below w.heap.size w w')
    (Z2 : ∀ w, Calls Tryd.prog 95 #[wd q] w fun e w' => e = .returned (wd y) ∧ Below w.heap.size w w')
    (Q1 : ∀ w, Calls Tryd.prog 94 #[wd x] w fun e w' => e = .returned (qd u) ∧ Below w.heap.size w w')
    (Q2 : ∀ w, Calls Tryd.prog 94 #[wd y] w fun e w' => e = .returned (qd v) ∧ Below w.heap.size w w')
    (T2 : ∀ w, Calls Tryd.prog 96 #[qd v] w fun e w' => e = .returned (qd (v * 2)) ∧ Below w.heap.size w w')
    (CC : ∀ (B C : Nat) (W : World), Wds W B u → Wds W C (v * 2) → Calls Tryd.prog 97 #[.slice (some ⟨B, 0, none⟩) 4 4, .slice (some ⟨C, 0, none⟩) 4 4] W fun e w' => e = .returned (.int .i64 c) ∧ w' = W) :
    Calls Tryd.prog 81 #[wd p, wd q] w fun e w' => e = .returned (.int .i64 r) ∧ Below w.heap.size w w' := by
  have l2 : ∀ n : Nat, n < n + 1 + 1 := fun n => by omega
  have d2 : ∀ n : Nat, ¬ n = n + 1 + 1 := fun n => by omega
  go_enter Tryd.func81, Tryd.ntmps81
  go_wp2
  go_region_held3 (fun w' => Below ((w.alloc (.cells #[.int .u64 (hiW p), .int .u64 (loW p)] 67)).alloc (.cells #[.int .u64 (hiW q), .int .u64 (loW q)] 67)).heap.size ((w.alloc (.cells #[.int .u64 (hiW p), .int .u64 (loW p)] 67)).alloc (.cells #[.int .u64 (hiW q), .int .u64 (loW q)] 67)) w' ∧ w'.cell? ⟨w.heap.size, 0, none⟩ = some (.int .u64 (hiW p)) ∧ w'.cell? ⟨w.heap.size, 1, none⟩ = some (.int .u64 (loW p)) ∧ w'.cell? ⟨w.heap.size + 1, 0, none⟩ = some (.int .u64 (hiW q)) ∧ w'.cell? ⟨w.heap.size + 1, 1, none⟩ = some (.int .u64 (loW q))) ((refine keep4 ?_; repeat (first | exact hK | exact And.left (by assumption) | exact below_drew (by assumption) | exact below_drew (Below.refl _ _) | exact bdr (And.left (by assumption)) _ | exact btr (And.left (by assumption)) hN | refine bal ?_ _ | refine bset ?_ _ _ _ (by first | exact Below.size (by assumption) | exact Below.size (And.left (by assumption)) | exact Nat.le_succ_of_le (Below.size (by assumption)) | exact Nat.le_succ_of_le (Below.size (And.left (by assumption)))) | refine below_drew ?_)))
        (first
          | (go_at_call 45; (with_reducible refine (S1 _).mono ?_); rintro e w2 ⟨rfl, hN⟩; have hK := btr (And.left (by assumption)) hN; (first | (replace hL := btr hL hN) | (have hL := hN)); obtain ⟨hc, hf⟩ := bcell hL; (first | (have sz := szAA hL; obtain ⟨sN, sM, sP, sQ⟩ := sz) | (have sz := szDD hL; obtain ⟨sN, sM, sP, sQ⟩ := sz) | (have sz := szA hL; obtain ⟨sN, sM⟩ := sz) | (have sz := szD hL; obtain ⟨sN, sM⟩ := sz) | skip))
          | (go_at_call 45; (with_reducible refine (S2 _).mono ?_); rintro e w2 ⟨rfl, hN⟩; have hK := btr (And.left (by assumption)) hN; (first | (replace hL := btr hL hN) | (have hL := hN)); obtain ⟨hc, hf⟩ := bcell hL; (first | (have sz := szAA hL; obtain ⟨sN, sM, sP, sQ⟩ := sz) | (have sz := szDD hL; obtain ⟨sN, sM, sP, sQ⟩ := sz) | (have sz := szA hL; obtain ⟨sN, sM⟩ := sz) | (have sz := szD hL; obtain ⟨sN, sM⟩ := sz) | skip)))
  have hB : Below ((w.alloc (.cells #[.int .u64 (hiW p), .int .u64 (loW p)] 67)).alloc (.cells #[.int .u64 (hiW q), .int .u64 (loW q)] 67)).heap.size ((w.alloc (.cells #[.int .u64 (hiW p), .int .u64 (loW p)] 67)).alloc (.cells #[.int .u64 (hiW q), .int .u64 (loW q)] 67)) w2 := hK
  go_upto_region 4 with (fail)
  refine wp_region_inv (by kernel_rfl) (fun bs a' W => match bs with
      | [b0, b1, b2, b3, b4, b5, b6, b7, b8, b9, b10] => ∃ v15 v7 v8 v17 v18 v19 v20 v21 v22 v23 : Value, a' = { tmps := #[wd p, wd q, .pointer (some ⟨w.heap.size, 0, none⟩), .pointer (some ⟨w.heap.size + 1, 0, none⟩), .int .i64 0, .int .i64 s, .int .i64 t, v7, v8, .agg #[.int .u64 (hiW p), .int .u64 (loW p)], .int .i64 s, .agg #[.int .u64 (hiW q), .int .u64 (loW q)], .int .i64 t, .int .i64 s, .int .i64 t, v15, undef, v17, v18, v19, v20, v21, v22, v23, undef, undef, undef, undef, undef, undef], defers := [] } ∧ Below ((w.alloc (.cells #[.int .u64 (hiW p), .int .u64 (loW p)] 67)).alloc (.cells #[.int .u64 (hiW q), .int .u64 (loW q)] 67)).heap.size ((w.alloc (.cells #[.int .u64 (hiW p), .int .u64 (loW p)] 67)).alloc (.cells #[.int .u64 (hiW q), .int .u64 (loW q)] 67)) W ∧
          ((b0 = true → v17 = wd p) ∧ (b1 = true → v18 = wd x) ∧ (b2 = true → v19 = qd u) ∧ (b3 = true → v20 = wd q) ∧ (b4 = true → v21 = wd y) ∧ (b5 = true → v22 = qd v) ∧ (b6 = true → v23 = qd (v * 2))) ∧
          (b7 = true → ∃ B, v7 = Value.pointer (some ⟨B, 0, none⟩) ∧ Own ((w.alloc (.cells #[.int .u64 (hiW p), .int .u64 (loW p)] 67)).alloc (.cells #[.int .u64 (hiW q), .int .u64 (loW q)] 67)).heap.size W B ∧ (b9 = true → Wds W B u)) ∧
          (b8 = true → ∃ C, v8 = Value.pointer (some ⟨C, 0, none⟩) ∧ Own ((w.alloc (.cells #[.int .u64 (hiW p), .int .u64 (loW p)] 67)).alloc (.cells #[.int .u64 (hiW q), .int .u64 (loW q)] 67)).heap.size W C ∧ (b10 = true → Wds W C (v * 2))) ∧
          (b7 = true → b8 = true → v7 ≠ v8) ∧ (b9 = true → b7 = true) ∧ (b10 = true → b8 = true)
      | _ => False) ?_ ?_ ?_
  · exact ⟨_, undef, undef, undef, undef, undef, undef, undef, undef, undef, rfl, below_drew hB, by simp, by simp, by simp, by simp, by simp, by simp⟩
  · intro bs a' W i hl hI hi
    match bs, hl, hI, hi with
    | [b0, b1, b2, b3, b4, b5, b6, b7, b8, b9, b10], _, hI, hi =>
      obtain ⟨v15, v7, v8, v17, v18, v19, v20, v21, v22, v23, rfl, hW, ⟨i0, i1, i2, i3, i4, i5, i6⟩, i7, i8, i78, i97, i108⟩ := hI
      obtain ⟨hun, o, ho, hdep⟩ := mem_ready.1 hi
      have hlt : i < 11 := by
        have := (Array.getElem?_eq_some_iff.1 ho).1
        simpa using this
      rcases (show i = 0 ∨ i = 1 ∨ i = 2 ∨ i = 3 ∨ i = 4 ∨ i = 5 ∨ i = 6 ∨ i = 7 ∨ i = 8 ∨ i = 9 ∨ i = 10 by omega) with rfl | rfl | rfl | rfl | rfl | rfl | rfl | rfl | rfl | rfl | rfl
      · obtain ⟨_, k0, k1, k2, k3⟩ := keep4 hW
        refine wpOp_one (o := _) rfl rfl ?_
        generalize hK : (fun (a' : Act) (W : World) => _) = K
        unfold Oper.wp
        go_simp
        subst hK
        exact ⟨_, _, _, _, _, _, _, _, _, _, rfl, hW, by refine ⟨?_, ?_, ?_, ?_, ?_, ?_, ?_⟩ <;> first | assumption | (intro _; rfl), i7, i8, i78, i97, i108⟩
      · obtain rfl : b0 = true := dep_of ho hdep rfl 0 _ rfl rfl
        obtain rfl := i0 rfl
        refine wpOp_one (o := _) rfl rfl ?_
        generalize hK : (fun (a' : Act) (W : World) => _) = K
        unfold Oper.wp
        go_simp
        refine (Z1 _).mono ?_
        rintro e w3 ⟨rfl, hN⟩
        subst hK
        exact ⟨_, _, _, _, _, _, _, _, _, _, rfl, btr hW hN, by refine ⟨?_, ?_, ?_, ?_, ?_, ?_, ?_⟩ <;> first | assumption | (intro _; rfl), fun h => (by obtain ⟨B, e1, e2, e3⟩ := i7 h; exact ⟨B, e1, e2.below hN, fun g => (e3 g).below hN⟩), fun h => (by obtain ⟨B, e1, e2, e3⟩ := i8 h; exact ⟨B, e1, e2.below hN, fun g => (e3 g).below hN⟩), i78, i97, i108⟩
      · obtain rfl : b1 = true := dep_of ho hdep rfl 0 _ rfl rfl
        obtain rfl := i1 rfl
        refine wpOp_one (o := _) rfl rfl ?_
        generalize hK : (fun (a' : Act) (W : World) => _) = K
        unfold Oper.wp
        go_simp
        refine (Q1 _).mono ?_
        rintro e w3 ⟨rfl, hN⟩
        subst hK
        exact ⟨_, _, _, _, _, _, _, _, _, _, rfl, btr hW hN, by refine ⟨?_, ?_, ?_, ?_, ?_, ?_, ?_⟩ <;> first | assumption | (intro _; rfl), fun h => (by obtain ⟨B, e1, e2, e3⟩ := i7 h; exact ⟨B, e1, e2.below hN, fun g => (e3 g).below hN⟩), fun h => (by obtain ⟨B, e1, e2, e3⟩ := i8 h; exact ⟨B, e1, e2.below hN, fun g => (e3 g).below hN⟩), i78, i97, i108⟩
      · obtain ⟨_, k0, k1, k2, k3⟩ := keep4 hW
        refine wpOp_one (o := _) rfl rfl ?_
        generalize hK : (fun (a' : Act) (W : World) => _) = K
        unfold Oper.wp
        go_simp
        subst hK
        exact ⟨_, _, _, _, _, _, _, _, _, _, rfl, hW, by refine ⟨?_, ?_, ?_, ?_, ?_, ?_, ?_⟩ <;> first | assumption | (intro _; rfl), i7, i8, i78, i97, i108⟩
      · obtain rfl : b3 = true := dep_of ho hdep rfl 0 _ rfl rfl
        obtain rfl := i3 rfl
        refine wpOp_one (o := _) rfl rfl ?_
        generalize hK : (fun (a' : Act) (W : World) => _) = K
        unfold Oper.wp
        go_simp
        refine (Z2 _).mono ?_
        rintro e w3 ⟨rfl, hN⟩
        subst hK
        exact ⟨_, _, _, _, _, _, _, _, _, _, rfl, btr hW hN, by refine ⟨?_, ?_, ?_, ?_, ?_, ?_, ?_⟩ <;> first | assumption | (intro _; rfl), fun h => (by obtain ⟨B, e1, e2, e3⟩ := i7 h; exact ⟨B, e1, e2.below hN, fun g => (e3 g).below hN⟩), fun h => (by obtain ⟨B, e1, e2, e3⟩ := i8 h; exact ⟨B, e1, e2.below hN, fun g => (e3 g).below hN⟩), i78, i97, i108⟩
      · obtain rfl : b4 = true := dep_of ho hdep rfl 0 _ rfl rfl
        obtain rfl := i4 rfl
        refine wpOp_one (o := _) rfl rfl ?_
        generalize hK : (fun (a' : Act) (W : World) => _) = K
        unfold Oper.wp
        go_simp
        refine (Q2 _).mono ?_
        rintro e w3 ⟨rfl, hN⟩
        subst hK
        exact ⟨_, _, _, _, _, _, _, _, _, _, rfl, btr hW hN, by refine ⟨?_, ?_, ?_, ?_, ?_, ?_, ?_⟩ <;> first | assumption | (intro _; rfl), fun h => (by obtain ⟨B, e1, e2, e3⟩ := i7 h; exact ⟨B, e1, e2.below hN, fun g => (e3 g).below hN⟩), fun h => (by obtain ⟨B, e1, e2, e3⟩ := i8 h; exact ⟨B, e1, e2.below hN, fun g => (e3 g).below hN⟩), i78, i97, i108⟩
      · obtain rfl : b5 = true := dep_of ho hdep rfl 0 _ rfl rfl
        obtain rfl := i5 rfl
        refine wpOp_one (o := _) rfl rfl ?_
        generalize hK : (fun (a' : Act) (W : World) => _) = K
        unfold Oper.wp
        go_simp
        refine (T2 _).mono ?_
        rintro e w3 ⟨rfl, hN⟩
        subst hK
        exact ⟨_, _, _, _, _, _, _, _, _, _, rfl, btr hW hN, by refine ⟨?_, ?_, ?_, ?_, ?_, ?_, ?_⟩ <;> first | assumption | (intro _; rfl), fun h => (by obtain ⟨B, e1, e2, e3⟩ := i7 h; exact ⟨B, e1, e2.below hN, fun g => (e3 g).below hN⟩), fun h => (by obtain ⟨B, e1, e2, e3⟩ := i8 h; exact ⟨B, e1, e2.below hN, fun g => (e3 g).below hN⟩), i78, i97, i108⟩
      · have hb : b7 = false := hun
        refine wpOp_one (o := _) rfl rfl ?_
        generalize hK : (fun (a' : Act) (W : World) => _) = K
        unfold Oper.wp
        go_simp
        subst hK
        exact ⟨_, _, _, _, _, _, _, _, _, _, rfl, bal hW _, by refine ⟨?_, ?_, ?_, ?_, ?_, ?_, ?_⟩ <;> first | assumption | (intro _; rfl), fun _ => ⟨_, rfl, Own.new _ _ _ _ _ hW.size, fun g => absurd (i97 g) (by rw [hb]; simp)⟩, fun h => (by obtain ⟨B, e1, e2, e3⟩ := i8 h; exact ⟨B, e1, e2.below (bal (Below.refl _ _) _), fun g => (e3 g).below (bal (Below.refl _ _) _)⟩), fun _ h => (by obtain ⟨B, e1, e2, e3⟩ := i8 h; rw [e1]; intro e; have := e2.lt; injection e with e; injection e with e; injection e with e; omega), fun _ => rfl, i108⟩
      · have hb : b8 = false := hun
        refine wpOp_one (o := _) rfl rfl ?_
        generalize hK : (fun (a' : Act) (W : World) => _) = K
        unfold Oper.wp
        go_simp
        subst hK
        exact ⟨_, _, _, _, _, _, _, _, _, _, rfl, bal hW _, by refine ⟨?_, ?_, ?_, ?_, ?_, ?_, ?_⟩ <;> first | assumption | (intro _; rfl), fun h => (by obtain ⟨B, e1, e2, e3⟩ := i7 h; exact ⟨B, e1, e2.below (bal (Below.refl _ _) _), fun g => (e3 g).below (bal (Below.refl _ _) _)⟩), fun _ => ⟨_, rfl, Own.new _ _ _ _ _ hW.size, fun g => absurd (i108 g) (by rw [hb]; simp)⟩, fun h _ => (by obtain ⟨B, e1, e2, e3⟩ := i7 h; rw [e1]; intro e; have := e2.lt; injection e with e; injection e with e; injection e with e; omega), i97, fun _ => rfl⟩
      · obtain rfl : b7 = true := dep_of ho hdep rfl 0 _ rfl rfl
        obtain rfl : b2 = true := dep_of ho hdep rfl 1 _ rfl rfl
        obtain rfl : b8 = true := dep_of ho hdep rfl 11 _ rfl rfl
        obtain rfl := i2 rfl
        obtain ⟨B, rfl, oB, wB⟩ := i7 rfl
        obtain ⟨C, rfl, oC, wC⟩ := i8 rfl
        have hne : B ≠ C := fun e => i78 rfl rfl (by rw [e])
        obtain ⟨z0, hz0⟩ := Option.isSome_iff_exists.1 oB.c0
        have hf0 := oB.fz 0
        obtain ⟨z1, hz1⟩ := Option.isSome_iff_exists.1 oB.c1
        have hf1 := oB.fz 1
        obtain ⟨z2, hz2⟩ := Option.isSome_iff_exists.1 oB.c2
        have hf2 := oB.fz 2
        obtain ⟨z3, hz3⟩ := Option.isSome_iff_exists.1 oB.c3
        have hf3 := oB.fz 3
        refine wpOp_one (o := _) rfl rfl ?_
        generalize hK : (fun (a' : Act) (W : World) => _) = K
        unfold Oper.wp
        go_simp
        subst hK
        exact ⟨_, _, _, _, _, _, _, _, _, _, rfl, below_st (v := u) hW oB.ge, by refine ⟨?_, ?_, ?_, ?_, ?_, ?_, ?_⟩ <;> first | assumption | (intro _; rfl), fun _ => ⟨B, rfl, Own.st (v := u) oB oB, fun _ => st4_same u oB⟩, fun _ => ⟨C, rfl, Own.st (v := u) oB oC, fun g => Wds.st (v := u) hne (wC g)⟩, i78, fun _ => rfl, i108⟩
      · obtain rfl : b8 = true := dep_of ho hdep rfl 0 _ rfl rfl
        obtain rfl : b6 = true := dep_of ho hdep rfl 1 _ rfl rfl
        obtain rfl : b7 = true := dep_of ho hdep rfl 10 _ rfl rfl
        obtain rfl := i6 rfl
        obtain ⟨B, rfl, oB, wB⟩ := i7 rfl
        obtain ⟨C, rfl, oC, wC⟩ := i8 rfl
        have hne : B ≠ C := fun e => i78 rfl rfl (by rw [e])
        obtain ⟨z0, hz0⟩ := Option.isSome_iff_exists.1 oC.c0
        have hf0 := oC.fz 0
        obtain ⟨z1, hz1⟩ := Option.isSome_iff_exists.1 oC.c1
        have hf1 := oC.fz 1
        obtain ⟨z2, hz2⟩ := Option.isSome_iff_exists.1 oC.c2
        have hf2 := oC.fz 2
        obtain ⟨z3, hz3⟩ := Option.isSome_iff_exists.1 oC.c3
        have hf3 := oC.fz 3
        refine wpOp_one (o := _) rfl rfl ?_
        generalize hK : (fun (a' : Act) (W : World) => _) = K
        unfold Oper.wp
        go_simp
        subst hK
        exact ⟨_, _, _, _, _, _, _, _, _, _, rfl, below_st (v := v * 2) hW oC.ge, by refine ⟨?_, ?_, ?_, ?_, ?_, ?_, ?_⟩ <;> first | assumption | (intro _; rfl), fun _ => ⟨B, rfl, Own.st (v := v * 2) oC oB, fun g => Wds.st (v := v * 2) (Ne.symm hne) (wB g)⟩, fun _ => ⟨C, rfl, Own.st (v := v * 2) oC oC, fun _ => st4_same (v * 2) oC⟩, i78, i97, fun _ => rfl⟩
  · intro bs a' W hl hI hre
    match bs, hl, hI, hre with
    | [b0, b1, b2, b3, b4, b5, b6, b7, b8, b9, b10], _, hI, hre =>
      have t0 : b0 = true := by cases b0 with | true => rfl | false => exact (rdy hre (i := 0) rfl rfl (by simp)).elim
      subst t0
      have t3 : b3 = true := by cases b3 with | true => rfl | false => exact (rdy hre (i := 3) rfl rfl (by simp)).elim
      subst t3
      have t7 : b7 = true := by cases b7 with | true => rfl | false => exact (rdy hre (i := 7) rfl rfl (by simp)).elim
      subst t7
      have t8 : b8 = true := by cases b8 with | true => rfl | false => exact (rdy hre (i := 8) rfl rfl (by simp)).elim
      subst t8
      have t1 : b1 = true := by cases b1 with | true => rfl | false => exact (rdy hre (i := 1) rfl rfl (by simp)).elim
      subst t1
      have t2 : b2 = true := by cases b2 with | true => rfl | false => exact (rdy hre (i := 2) rfl rfl (by simp)).elim
      subst t2
      have t4 : b4 = true := by cases b4 with | true => rfl | false => exact (rdy hre (i := 4) rfl rfl (by simp)).elim
      subst t4
      have t5 : b5 = true := by cases b5 with | true => rfl | false => exact (rdy hre (i := 5) rfl rfl (by simp)).elim
      subst t5
      have t6 : b6 = true := by cases b6 with | true => rfl | false => exact (rdy hre (i := 6) rfl rfl (by simp)).elim
      subst t6
      have t9 : b9 = true := by cases b9 with | true => rfl | false => exact (rdy hre (i := 9) rfl rfl (by simp)).elim
      subst t9
      have t10 : b10 = true := by cases b10 with | true => rfl | false => exact (rdy hre (i := 10) rfl rfl (by simp)).elim
      subst t10
      obtain ⟨v15, v7, v8, v17, v18, v19, v20, v21, v22, v23, rfl, hW, _, i7, i8, _⟩ := hI
      obtain ⟨B, rfl, oB, wB⟩ := i7 rfl
      obtain ⟨C, rfl, oC, wC⟩ := i8 rfl
      replace wB := wB rfl
      replace wC := wC rfl
      have c73 := fun n => CC B C (W.drewN n) (wB.drewN n) (wC.drewN n)
      clear i7 i8 hre
      rcases hr with ⟨hc, rfl⟩ | ⟨hc, rfl⟩
      all_goals
        go_wp2
        go_quiet ((go_at_call 97; exact Calls.quiet_of_same (c73 _)))
        go_wp2
        go_ret
        exact ⟨rfl, below_drewN (btr (bal (bal (Below.refl w.heap.size w) _) _) hW) _⟩
end Go.Proofs.YtcfmhkhfmcmkbaaDoor
namespace Go.Proofs.YtcfmhkhfmcmkbaaDoor
open Go.RowKit Go.Sort

set_option maxHeartbeats 1000000 in
theorem signOf_same (p q s : Int) (w : World)
    (S1 : ∀ w, Calls Tryd.prog 45 #[wd p] w fun e w' => e = .returned (.int .i64 s) ∧ Below w.heap.size w w')
    (S2 : ∀ w, Calls Tryd.prog 45 #[wd q] w fun e w' => e = .returned (.int .i64 s) ∧ Below w.heap.size w w') :
    Calls Tryd.prog 81 #[wd p, wd q] w fun e w' => e = .returned (.int .i64 s) ∧ Below w.heap.size w w' := by
  have l2 : ∀ n : Nat, n < n + 1 + 1 := fun n => by omega
  go_enter Tryd.func81, Tryd.ntmps81
  go_wp2
  go_region_held3 (fun w' => Below ((w.alloc (.cells #[.int .u64 (hiW p), .int .u64 (loW p)] 67)).alloc (.cells #[.int .u64 (hiW q), .int .u64 (loW q)] 67)).heap.size ((w.alloc (.cells #[.int .u64 (hiW p), .int .u64 (loW p)] 67)).alloc (.cells #[.int .u64 (hiW q), .int .u64 (loW q)] 67)) w' ∧ w'.cell? ⟨w.heap.size, 0, none⟩ = some (.int .u64 (hiW p)) ∧ w'.cell? ⟨w.heap.size, 1, none⟩ = some (.int .u64 (loW p)) ∧ w'.cell? ⟨w.heap.size + 1, 0, none⟩ = some (.int .u64 (hiW q)) ∧ w'.cell? ⟨w.heap.size + 1, 1, none⟩ = some (.int .u64 (loW q))) ((refine keep4 ?_; repeat (first | exact hK | exact And.left (by assumption) | exact below_drew (by assumption) | exact below_drew (Below.refl _ _) | exact bdr (And.left (by assumption)) _ | exact btr (And.left (by assumption)) hN | refine bal ?_ _ | refine bset ?_ _ _ _ (by first | exact Below.size (by assumption) | exact Below.size (And.left (by assumption)) | exact Nat.le_succ_of_le (Below.size (by assumption)) | exact Nat.le_succ_of_le (Below.size (And.left (by assumption)))) | refine below_drew ?_)))
        (first
          | (go_at_call 45; (with_reducible refine (S1 _).mono ?_); rintro e w2 ⟨rfl, hN⟩; have hK := btr (And.left (by assumption)) hN; (first | (replace hL := btr hL hN) | (have hL := hN)); obtain ⟨hc, hf⟩ := bcell hL; (first | (have sz := szAA hL; obtain ⟨sN, sM, sP, sQ⟩ := sz) | (have sz := szDD hL; obtain ⟨sN, sM, sP, sQ⟩ := sz) | (have sz := szA hL; obtain ⟨sN, sM⟩ := sz) | (have sz := szD hL; obtain ⟨sN, sM⟩ := sz) | skip))
          | (go_at_call 45; (with_reducible refine (S2 _).mono ?_); rintro e w2 ⟨rfl, hN⟩; have hK := btr (And.left (by assumption)) hN; (first | (replace hL := btr hL hN) | (have hL := hN)); obtain ⟨hc, hf⟩ := bcell hL; (first | (have sz := szAA hL; obtain ⟨sN, sM, sP, sQ⟩ := sz) | (have sz := szDD hL; obtain ⟨sN, sM, sP, sQ⟩ := sz) | (have sz := szA hL; obtain ⟨sN, sM⟩ := sz) | (have sz := szD hL; obtain ⟨sN, sM⟩ := sz) | skip)))
  go_wp2
  go_ret
  exact ⟨rfl, btr (bal (bal (Below.refl w.heap.size w) _) _) hK⟩

/-- The sign of p + q times the square root of 2. -/
def signS (p q : Int) : Int := if sgn p = sgn q then sgn p else if q * q * 2 < p * p then sgn p else sgn q
theorem absI_sq (a : Int) : absI a * absI a = a * a := by
  unfold absI
  split
  · exact Int.neg_mul_neg a a
  · rfl
theorem absI_lt (a : Int) (h : -85070591730234615865843651857942052864 < a ∧ a < 85070591730234615865843651857942052864) : 0 ≤ absI a ∧ absI a < 85070591730234615865843651857942052864 := by unfold absI; split <;> omega
theorem signOf_any (p q : Int) (w : World) (hp : -85070591730234615865843651857942052864 < p ∧ p < 85070591730234615865843651857942052864) (hq : -85070591730234615865843651857942052864 < q ∧ q < 85070591730234615865843651857942052864) :
    Calls Tryd.prog 81 #[wd p, wd q] w fun e w' => e = .returned (.int .i64 (signS p q)) ∧ Below w.heap.size w w' := by
  have ip : In128 p := by unfold In128; omega
  have iq : In128 q := by unfold In128; omega
  unfold signS
  by_cases h : sgn p = sgn q
  · rw [if_pos h]
    exact signOf_same p q (sgn p) w (fun w => sign_any p w ip) (fun w => by rw [h]; exact sign_any q w iq)
  · rw [if_neg h]
    have ap := absI_lt p hp
    have aq := absI_lt q hq
    have mp := Int.mul_le_mul (show absI p ≤ 85070591730234615865843651857942052863 by omega) (show absI p ≤ 85070591730234615865843651857942052863 by omega) ap.1 (by omega)
    have mq := Int.mul_le_mul (show absI q ≤ 85070591730234615865843651857942052863 by omega) (show absI q ≤ 85070591730234615865843651857942052863 by omega) aq.1 (by omega)
    have np := Int.mul_nonneg ap.1 ap.1
    have nq := Int.mul_nonneg aq.1 aq.1
    rw [absI_sq] at mp mq np nq
    have fp := first4_pos (p * p) (q * q * 2) np (by omega) (by omega) (by omega)
    refine signOf_core p q (absI p) (absI q) (p * p) (q * q) (sgn p) (sgn q) _ w h _ ?_ (fun w => sign_any p w ip) (fun w => sign_any q w iq) (fun w => size_any p w ip) (fun w => size_any q w iq)
      (fun w => by have := square_any (absI p) w ap.1 (by omega); rwa [absI_sq] at this) (fun w => by have := square_any (absI q) w aq.1 (by omega); rwa [absI_sq] at this)
      (fun w => twice_any (q * q) w nq (by omega))
      (fun B C W hB hC => compare_core B C _ _ _ _ _ _ _ _ _ _ _ _ W hB.c0 hB.c1 hB.c2 hB.c3 hC.c0 hC.c1 hC.c2 hC.c3 (fun w => cmp_any _ _ w) (fun w => cmp_any _ _ w) (fun w => cmp_any _ _ w) (fun w => cmp_any _ _ w))
    by_cases hlt : q * q * 2 < p * p
    · rw [if_pos hlt]; exact Or.inl ⟨fp.2 hlt, rfl⟩
    · rw [if_neg hlt]; exact Or.inr ⟨fun x => hlt (fp.1 x), rfl⟩

theorem keep3r {w W : World} {a b c : Int} (h : Below (w.alloc (.cells #[.int .i64 a, .int .i64 b, .int .i64 c] 24)).heap.size (w.alloc (.cells #[.int .i64 a, .int .i64 b, .int .i64 c] 24)) W) :
    Below (w.alloc (.cells #[.int .i64 a, .int .i64 b, .int .i64 c] 24)).heap.size (w.alloc (.cells #[.int .i64 a, .int .i64 b, .int .i64 c] 24)) W ∧ W.cell? ⟨w.heap.size, 0, none⟩ = some (.int .i64 a) ∧ W.cell? ⟨w.heap.size, 1, none⟩ = some (.int .i64 b) := by
  have hs : (w.alloc (.cells #[.int .i64 a, .int .i64 b, .int .i64 c] 24)).heap.size = w.heap.size + 1 := alz _ _
  have k0 : ∀ i, W.cell? ⟨w.heap.size, i, none⟩ = (#[Value.int .i64 a, .int .i64 b, .int .i64 c])[i]? := fun i => by
    rw [h.cell (p := ⟨w.heap.size, i, none⟩) (by rw [hs]; show w.heap.size < _; omega), World.cell?_alloc_at _ _ _ _ rfl]
  exact ⟨h, k0 0, k0 1⟩
end Go.Proofs.YtcfmhkhfmcmkbaaDoor
