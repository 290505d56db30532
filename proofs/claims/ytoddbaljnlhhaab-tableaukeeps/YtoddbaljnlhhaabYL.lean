/-
  Put together of: JW.
-/
import Derived.Test.YtoddbaljnlhhaabYK
namespace Go.Proofs.Ytoddbaljnlhhaab
open Go.RowKit Go.Sort
open PL (pv PS bt cgk cgT)
open BL (pickN putN)

/-- The list of places that a part takes. -/
def qA (x0 x1 : Int) : Nat → Array Value
  | 0 => #[.int .i64 x0]
  | 1 => #[.int .i64 x1]
  | 2 => #[.int .i64 x0, .int .i64 x1]
  | _ => #[.int .i64 x1, .int .i64 x0]
def qAn : Nat → Nat
  | 0 => 1
  | 1 => 1
  | 2 => 2
  | _ => 2
/-- Names and numbers in memory. -/
structure GQ (W : World) (b b' L : Nat) (G : Nat → ByteArray) (Q : Nat → Nat) : Prop where
  nm : ∀ j, j < L → W.cell? ⟨b, j, none⟩ = some (.string (G j))
  nu : ∀ j, j < L → W.cell? ⟨b', j, none⟩ = some (.int .i64 (Q j : Nat))
  lt : b < W.heap.size
  lt' : b' < W.heap.size
theorem GQ.on {W W' : World} {b b' L : Nat} {G : Nat → ByteArray} {Q : Nat → Nat} (h : GQ W b b' L G Q) (hb : Below W.heap.size W W') : GQ W' b b' L G Q :=
  ⟨fun j hj => (hb.cell (p := ⟨b, j, none⟩) h.lt).trans (h.nm j hj), fun j hj => (hb.cell (p := ⟨b', j, none⟩) h.lt').trans (h.nu j hj), Nat.lt_of_lt_of_le h.lt hb.size, Nat.lt_of_lt_of_le h.lt' hb.size⟩
/-- What a store into another block leaves. -/
theorem GQ.far {W : World} {b b' L c k : Nat} {v : Value} {G : Nat → ByteArray} {Q : Nat → Nat} (h : GQ W b b' L G Q) (h1 : c ≠ b) (h2 : c ≠ b') : GQ (W.setCell ⟨c, k, none⟩ v) b b' L G Q :=
  ⟨fun j hj => (World.cell?_setCell_far _ _ _ _ h1).trans (h.nm j hj), fun j hj => (World.cell?_setCell_far _ _ _ _ h2).trans (h.nu j hj), by simpa using h.lt, by simpa using h.lt'⟩
/-- All that the loop keeps: the row, the answer's room, names and numbers, and what was there. -/
structure RK (w W : World) (b b' L N : Nat) (G : Nat → ByteArray) (Q : Nat → Nat) (p : PS) : Prop where
  hb : Below w.heap.size w W
  pb : PL.PB W w.heap.size (N : Nat) p.x p.z (p.f : Nat)
  rb : PL.PB W (w.heap.size + 1) 0 0 0 0
  gq : GQ W b b' L G Q
theorem RK.on {w W W' : World} {b b' L N : Nat} {G : Nat → ByteArray} {Q : Nat → Nat} {p : PS} (h : RK w W b b' L N G Q p) (hB : Below W.heap.size W W') : RK w W' b b' L N G Q p :=
  ⟨btr h.hb hB, h.pb.below hB, h.rb.below hB, h.gq.on hB⟩
theorem RK.put {w W : World} {b b' L N : Nat} {G : Nat → ByteArray} {Q : Nat → Nat} {p : PS} (h : RK w W b b' L N G Q p) (h1 : w.heap.size ≠ b) (h2 : w.heap.size ≠ b') (p' : PS) :
    RK w ((((W.setCell ⟨w.heap.size, 0, none⟩ (.int .i64 (N : Int))).setCell ⟨w.heap.size, 1, none⟩ (.int .u64 (p'.x : Int))).setCell ⟨w.heap.size, 2, none⟩ (.int .u64 (p'.z : Int))).setCell ⟨w.heap.size, 3, none⟩ (.int .i64 (p'.f : Int))) b b' L N G Q p' := by
  have hne : w.heap.size ≠ w.heap.size + 1 := by omega
  refine ⟨bset (bset (bset (bset h.hb _ 0 _ (Nat.le_refl _)) _ 1 _ (Nat.le_refl _)) _ 2 _ (Nat.le_refl _)) _ 3 _ (Nat.le_refl _), (((h.pb.set0 (N : Nat)).set1 p'.x).set2 p'.z).set3 (p'.f : Nat), (((h.rb.far hne 0 _).far hne 1 _).far hne 2 _).far hne 3 _, (((h.gq.far h1 h2).far h1 h2).far h1 h2).far h1 h2⟩
set_option maxHeartbeats 4000000 in
set_option maxRecDepth 100000 in
theorem rturn_wk2 (nm : ByteArray) (N L : Nat) (hL0 : 0 < L) (hL6 : L ≤ 6) (G : Nat → ByteArray) (Q : Nat → Nat) (hQ4 : ∀ k, k < L → Q k = 0 ∨ Q k = 1 ∨ Q k = 2 ∨ Q k = 3) (S : Nat → PS) (SN : ∀ k, k ≤ L → (S k).n = N) (b o cq : Nat) (_hcq : 2 ≤ cq) (x0 x1 : Int) (w : World)
    (C0 : w.cell? ⟨b, o, none⟩ = some (.int .i64 x0)) (C1 : w.cell? ⟨b, o + 1, none⟩ = some (.int .i64 x1))
    (PT : ∀ W : World, Calls Try.prog 39 #[.string nm] W fun e w' => e = .returned (.tuple #[.slice (some ⟨W.heap.size, 0, none⟩) L L, .slice (some ⟨W.heap.size + 1, 0, none⟩) L L]) ∧ Below W.heap.size W w' ∧ GQ w' W.heap.size (W.heap.size + 1) L G Q)
    (HR : Hid (∀ k, k < L → ∀ W B, BK W B (qA x0 x1 (Q k)) 3 → Calls Try.prog 18 #[pv (N : Nat) (S k).x (S k).z ((S k).f : Nat), .string (G k), .slice (some ⟨B, 0, none⟩) (qAn (Q k) : Nat) (qAn (Q k) : Nat)] W fun e w' => e = .returned (pv (N : Nat) (S (k + 1)).x (S (k + 1)).z ((S (k + 1)).f : Nat)) ∧ Below W.heap.size W w')) :
    Calls Try.prog 18 #[pv (N : Nat) (S 0).x (S 0).z ((S 0).f : Nat), .string nm, .slice (some ⟨b, o, none⟩) 2 cq] w fun e w' => e = .returned (S L).v ∧ Below w.heap.size w w' := by
  obtain ⟨hB0, hP3, hP6⟩ := PL.two_boxes w (N : Nat) (S 0).x (S 0).z ((S 0).f : Nat) 0 0 0 0
  have HB := hid hB0
  have P3 := hid hP3
  have P6 := hid hP6
  have hv : (S L).v = pv (N : Nat) (S L).x (S L).z ((S L).f : Nat) := by show pv _ _ _ _ = _; rw [SN L (Nat.le_refl _)]
  rw [hv]
  have hbl := block_lt_of_cell C0
  have HC0 := hid (fun W (hb : Below w.heap.size w W) => (hb.cell (p := ⟨b, o, none⟩) hbl).trans C0)
  have HC1 := hid (fun W (hb : Below w.heap.size w W) => (hb.cell (p := ⟨b, o + 1, none⟩) hbl).trans C1)
  have HSN := hid SN
  have HQ4 := hid hQ4
  clear hB0 hP3 hP6 hv SN C0 C1 hbl hQ4
  go_enter Try.func18, Try.ntmps18
  go_wp2_with (go_at_call 39; (with_reducible refine (PT _).mono ?_); rintro e w1 ⟨rfl, hN1, hG1⟩)
  rw [PL.alz, PL.alz] at hG1
  have K0 : Hid (RK w w1 (w.heap.size + 1 + 1) (w.heap.size + 1 + 1 + 1) L N G Q (S 0)) := hid ⟨btr HB.out hN1, P3.out.below hN1, P6.out.below hN1, hG1⟩
  clear hN1 hG1 PT P3 P6 HB
  go_loopw [9] (fun v9 wx => ∃ (k : Nat), k ≤ L ∧ v9 = .int .i64 (k : Nat) ∧ Hid (RK w wx (w.heap.size + 1 + 1) (w.heap.size + 1 + 1 + 1) L N G Q (S k))) (fun v9 _ => L - (intOf v9).toNat)
  case atStart => exact ⟨0, Nat.zero_le _, rfl, K0⟩
  case round =>
    clear K0
    obtain ⟨k, hk, rfl, HK⟩ := hrel
    by_cases hlt : k < L
    case neg =>
      obtain rfl : k = L := by omega
      obtain ⟨c0, c1, c2, c3, _, _, _, _⟩ := HK.out.pb
      have cl := HK.out.pb.lt
      obtain ⟨y0, y1, y2, y3, z0, z1, z2, z3⟩ := HK.out.rb
      have yl := HK.out.rb.lt
      have r := (((HK.out.rb.set0 (N : Nat)).set1 (S k).x).set2 (S k).z).set3 ((S k).f : Nat)
      obtain ⟨q0, q1, q2, q3, _, _, _, _⟩ := r
      have HBf := hid (bset (bset (bset (bset HK.out.hb (w.heap.size + 1) 0 (.int .i64 (N : Int)) (by omega)) (w.heap.size + 1) 1 (.int .u64 ((S k).x : Int)) (by omega)) (w.heap.size + 1) 2 (.int .u64 ((S k).z : Int)) (by omega)) (w.heap.size + 1) 3 (.int .i64 ((S k).f : Int)) (by omega))
      clear HR
      go_wp2
      exact bodyPost_ret (v := pv (N : Nat) (S k).x (S k).z ((S k).f : Nat)) (by simp [results, Try.results18, go_sem, q0, q1, q2, q3]) rfl ⟨rfl, HBf.out⟩
    have hcall := HR.out k hlt
    have nk := HK.out.gq.nm k hlt
    have uk := HK.out.gq.nu k hlt
    have c0' := HC0.out _ HK.out.hb
    have c1' := HC1.out _ HK.out.hb
    have e4 := HQ4.out k hlt
    generalize Q k = s at uk hcall e4
    obtain ⟨A', hA'⟩ : ∃ A', Hid (A' = S (k + 1)) := ⟨_, rfl⟩
    rw [← hA'.out] at hcall
    generalize S k = A at *
    clear HR
    rcases e4 with e | e | e | e <;> subst e
    · change _ = some (Value.int .i64 0) at uk
      simp only [qA, qAn] at hcall
      have KB := hid (bk_new wr #[.int .i64 x0] 3)
      have K1 := hid (HK.out.on (bal (Below.refl wr.heap.size wr) (.cells #[.int .i64 x0] 3)))
      have HC := hid hcall
      clear hcall
      go_upto_region 15 with (fail)
      obtain ⟨c0, c1, c2, c3, _, _, _, _⟩ := K1.out.pb
      have cl := K1.out.pb.lt
      have nk := K1.out.gq.nm k hlt
      have hD := drew_of K1.out.hb
      have KD := hid (K1.out.on hD)
      have KBD := hid (bk_on KB.out hD)
      go_region_with (go_at_call 18; (with_reducible refine (HC.out _ _ KBD.out).mono ?_); rintro e w3 ⟨rfl, hN3⟩; (have K3 := KD.out.on hN3); (obtain ⟨c0, c1, c2, c3, f0, f1, f2, f3⟩ := K3.pb))
      all_goals
        have R := hid (K3.put (by omega) (by omega) A')
        clear nk uk c0' c1'
        go_wp2
        exact ⟨⟨k + 1, by omega, by go_num, by rw [← hA'.out]; exact R⟩, by simp only [intOf]; omega⟩
    · change _ = some (Value.int .i64 1) at uk
      simp only [qA, qAn] at hcall
      have KB := hid (bk_new wr #[.int .i64 x1] 3)
      have K1 := hid (HK.out.on (bal (Below.refl wr.heap.size wr) (.cells #[.int .i64 x1] 3)))
      have HC := hid hcall
      clear hcall
      go_upto_region 15 with (fail)
      obtain ⟨c0, c1, c2, c3, _, _, _, _⟩ := K1.out.pb
      have cl := K1.out.pb.lt
      have nk := K1.out.gq.nm k hlt
      have hD := drew_of K1.out.hb
      have KD := hid (K1.out.on hD)
      have KBD := hid (bk_on KB.out hD)
      go_region_with (go_at_call 18; (with_reducible refine (HC.out _ _ KBD.out).mono ?_); rintro e w3 ⟨rfl, hN3⟩; (have K3 := KD.out.on hN3); (obtain ⟨c0, c1, c2, c3, f0, f1, f2, f3⟩ := K3.pb))
      all_goals
        have R := hid (K3.put (by omega) (by omega) A')
        clear nk uk c0' c1'
        go_wp2
        exact ⟨⟨k + 1, by omega, by go_num, by rw [← hA'.out]; exact R⟩, by simp only [intOf]; omega⟩
    · change _ = some (Value.int .i64 2) at uk
      simp only [qA, qAn] at hcall
      have KB := hid (bk_new wr #[.int .i64 x0, .int .i64 x1] 3)
      have K1 := hid (HK.out.on (bal (Below.refl wr.heap.size wr) (.cells #[.int .i64 x0, .int .i64 x1] 3)))
      have HC := hid hcall
      clear hcall
      go_upto_region 14 with (fail)
      go_region_with (fail)
      all_goals go_upto_region 15 with (fail)
      all_goals
        replace KB := hid KB.out.drew
        replace K1 := hid (K1.out.on (drew_of K1.out.hb))
        obtain ⟨c0, c1, c2, c3, _, _, _, _⟩ := K1.out.pb
        have cl := K1.out.pb.lt
        have nk := K1.out.gq.nm k hlt
        have hD := drew_of K1.out.hb
        have KD := hid (K1.out.on hD)
        have KBD := hid (bk_on KB.out hD)
        go_region_with (go_at_call 18; (with_reducible refine (HC.out _ _ KBD.out).mono ?_); rintro e w3 ⟨rfl, hN3⟩; (have K3 := KD.out.on hN3); (obtain ⟨c0, c1, c2, c3, f0, f1, f2, f3⟩ := K3.pb))
        all_goals
          have R := hid (K3.put (by omega) (by omega) A')
          clear nk uk c0' c1'
          go_wp2
          exact ⟨⟨k + 1, by omega, by go_num, by rw [← hA'.out]; exact R⟩, by simp only [intOf]; omega⟩
    · change _ = some (Value.int .i64 3) at uk
      simp only [qA, qAn] at hcall
      have KB := hid (bk_new wr #[.int .i64 x1, .int .i64 x0] 3)
      have K1 := hid (HK.out.on (bal (Below.refl wr.heap.size wr) (.cells #[.int .i64 x1, .int .i64 x0] 3)))
      have HC := hid hcall
      clear hcall
      go_upto_region 8 with (fail)
      go_region_with (fail)
      all_goals go_upto_region 15 with (fail)
      all_goals
        replace KB := hid KB.out.drew
        replace K1 := hid (K1.out.on (drew_of K1.out.hb))
        obtain ⟨c0, c1, c2, c3, _, _, _, _⟩ := K1.out.pb
        have cl := K1.out.pb.lt
        have nk := K1.out.gq.nm k hlt
        have hD := drew_of K1.out.hb
        have KD := hid (K1.out.on hD)
        have KBD := hid (bk_on KB.out hD)
        go_region_with (go_at_call 18; (with_reducible refine (HC.out _ _ KBD.out).mono ?_); rintro e w3 ⟨rfl, hN3⟩; (have K3 := KD.out.on hN3); (obtain ⟨c0, c1, c2, c3, f0, f1, f2, f3⟩ := K3.pb))
        all_goals
          have R := hid (K3.put (by omega) (by omega) A')
          clear nk uk c0' c1'
          go_wp2
          exact ⟨⟨k + 1, by omega, by go_num, by rw [← hA'.out]; exact R⟩, by simp only [intOf]; omega⟩
end Go.Proofs.Ytoddbaljnlhhaab
